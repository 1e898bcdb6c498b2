import PyProof.Rows.All
import Wide.All
import OpenK.AllK
import Wide.FinOn
import Lean
import PyProof.EqAt
import PyProof.EqKinds
import PyProof.TupleCall
import PyProof.Rows.SetFrom
import PyProof.ListRange
import PyProof.Rows.SortWalk
import PyProof.TupleOfStr
import PyProof.CollectStr
import PyProof.EnumMake
import PyProof.Rows.EnumRows
import PyProof.Rows.SumAny
import PyProof.Draws
import KE.KLcPair
import PyProof.Rows.TupDisplay
import PyProof.Rows.TupTab
import PyProof.AttrMiss
import KE.KDictOf
import OpenK.KOwn
import KE.KTryMore
import PyProof.RulesAs
import KE.KIsAll
import PyProof.ExcArgsOwn
import KE.RegKTryMore
import KE.RegKIsAll
import PyProof.FString5
import PyProof.Rows.StrJoinMade
import PyProof.DictTable
import PyProof.FitsReplace
import PyProof.DictUpdate
import PyProof.Rows.StrKeys3
import PyProof.StrCalls2
import PyProof.StrLawsTight
import PyProof.StrLawsChain
import PyProof.StrLawsJoin
import PyProof.StrLawsRepr
import PyProof.NeKinds
import PySem.Challenge.RW_tonemirror_k45_sayings_written
set_option Elab.async false
set_option linter.all false
set_option maxRecDepth 100000
/-! THE HAND LAYER, for ints, bools, texts, own classes, LISTS and tuples (index, slices, in, append, pop ..), calls, loops. Paste it whole ahead of your own text; what your proof does not reach may be deleted. -/
namespace L2
open PySem PySem.Spec PyProof.Rows

/-- a key: an int or a str -/
abbrev Key := Sum Int Str
def keyIs : Key → Value → Bool
  | .inl k, v => Value.isInt k v
  | .inr x, v => Value.isStrOf x v
def keyH (w : World) : Key → Int
  | .inl k => hashInt k
  | .inr x => hashStr w x
theorem keyIs_shape : ∀ {k : Key} {v : Value}, keyIs k v = true → (∃ i t, k = Sum.inl i ∧ v = Value.int i t) ∨ (∃ x t, k = Sum.inr x ∧ v = Value.str x t)
  | .inl i, v, h => by
    obtain ⟨t, e⟩ := Value.isInt_shape (k := i) (v := v) h
    exact .inl ⟨i, t, rfl, e⟩
  | .inr x, v, h => by
    obtain ⟨t, e⟩ := Value.isStrOf_shape (x := x) (v := v) h
    exact .inr ⟨x, t, rfl, e⟩
theorem keyIs_int (i : Int) (t : Tok) : keyIs (.inl i) (.int i t) = true := by simp [keyIs, Value.isInt]
theorem keyIs_str (x : Str) (t : Tok) : keyIs (.inr x) (.str x t) = true := by simp [keyIs, Value.isStrOf]
theorem key_ll (a b : Int) : decide ((Sum.inl a : Key) = Sum.inl b) = (a == b) := by
  by_cases e : a = b
  · subst e; simp
  · have h : ¬ (Sum.inl a : Key) = Sum.inl b := fun q => e (Sum.inl.inj q)
    rw [decide_eq_false h]
    exact (beq_eq_false_iff_ne.mpr e).symm
theorem key_rr (a b : Str) : decide ((Sum.inr a : Key) = Sum.inr b) = decide (a = b) := by
  by_cases e : a = b
  · subst e; simp
  · have h : ¬ (Sum.inr a : Key) = Sum.inr b := fun q => e (Sum.inr.inj q)
    rw [decide_eq_false h, decide_eq_false e]
theorem key_lr (a : Int) (b : Str) : decide ((Sum.inl a : Key) = Sum.inr b) = false := decide_eq_false (fun q => nomatch q)
theorem key_rl (a : Str) (b : Int) : decide ((Sum.inr a : Key) = Sum.inl b) = false := decide_eq_false (fun q => nomatch q)

def mixKind (prog : Program) (w : World) : PySem.KeyKind prog w Key where
  is := keyIs
  hash := keyH w
  inj := fun v a b ha hb => by
    rcases keyIs_shape ha with ⟨i, t, rfl, rfl⟩ | ⟨x, t, rfl, rfl⟩
    · rcases keyIs_shape hb with ⟨j, u, rfl, e⟩ | ⟨y, u, rfl, e⟩
      · injection e with e1 _; rw [e1]
      · exact nomatch e
    · rcases keyIs_shape hb with ⟨j, u, rfl, e⟩ | ⟨y, u, rfl, e⟩
      · exact nomatch e
      · injection e with e1 _; rw [e1]
  byValue := fun k v h => by
    rcases keyIs_shape h with ⟨i, t, rfl, rfl⟩ | ⟨x, t, rfl, rfl⟩ <;> rfl
  pyHash := fun hv h => by
    rcases keyIs_shape hv with ⟨i, t, rfl, rfl⟩ | ⟨x, t, rfl, rfl⟩
    · exact wpAny_pyHash_int h
    · exact wpAny_pyHash_str h
  eqBool := fun hu hv h => by
    rcases keyIs_shape hu with ⟨i, t, rfl, rfl⟩ | ⟨x, t, rfl, rfl⟩
    · rcases keyIs_shape hv with ⟨j, u, rfl, rfl⟩ | ⟨y, u, rfl, rfl⟩
      · rw [key_ll] at h; exact wpAny_eqBool_int h
      · rw [key_lr] at h; exact SeqAt.EqAt.int_str i t y u _ _ _ _ h
    · rcases keyIs_shape hv with ⟨j, u, rfl, rfl⟩ | ⟨y, u, rfl, rfl⟩
      · rw [key_rl] at h; exact SeqAt.EqAt.str_int x t j u _ _ _ _ h
      · rw [key_rr] at h; exact wpAny_eqBool_str h
  «strs» := fun k x t v h => by
    rcases keyIs_shape h with ⟨i, u, rfl, e⟩ | ⟨y, u, rfl, e⟩
    · exact nomatch e
    · injection e with e1 _
      subst e1
      cases v <;> rfl

theorem mixKind_is (prog : Program) (w : World) (k : Key) (v : Value) : (mixKind prog w).is k v = keyIs k v := rfl
theorem mixKind_int (prog : Program) (w : World) (i : Int) (t : Tok) : (mixKind prog w).is (.inl i) (.int i t) = true := keyIs_int i t
theorem mixKind_str (prog : Program) (w : World) (x : Str) (t : Tok) : (mixKind prog w).is (.inr x) (.str x t) = true := keyIs_str x t
end L2

namespace L2
open PySem PySem.Spec PyProof.Rows

/-- a value, without the heap -/
inductive V where
  | non | bl (b : Bool) | int (i : Int) | str (x : Str) | byt (b : Array UInt8) | flt (b : UInt64) | ref (a : Addr) | ty (n : String)
  deriving DecidableEq

def RelV : V → Value → Prop
  | .non, u => u = Value.none
  | .bl b, u => u = Value.bool b
  | .int i, u => ∃ t, u = Value.int i t
  | .str x, u => ∃ t, u = Value.str x t
  | .byt b, u => ∃ t, u = Value.bytes b t
  | .flt b, u => ∃ t, u = Value.float b t
  | .ref a, u => u = Value.ref a
  | .ty n, u => u = Value.type n

abbrev Vals : List V → List Value → Prop := Paired RelV
theorem Vals.length {xs : List V} {us : List Value} (r : Vals xs us) : xs.length = us.length := Paired.length r
theorem Vals.get : ∀ {xs : List V} {us : List Value} {i : Nat} {x : V}, Vals xs us → xs[i]? = some x → ∃ u, us[i]? = some u ∧ RelV x u
  | _, _, _, _, .nil, e => by simp at e
  | _, _, 0, _, .cons r _, e => by simp at e; subst e; exact ⟨_, rfl, r⟩
  | _, _, i + 1, x, .cons _ t, e => by
    obtain ⟨u, h1, h2⟩ := Vals.get (i := i) (x := x) t (by simpa using e)
    exact ⟨u, by simpa using h1, h2⟩
theorem Vals.set {x : V} {u : Value} (r : RelV x u) : ∀ {xs : List V} {us : List Value} (i : Nat), Vals xs us → Vals (xs.set i x) (us.set i u)
  | _, _, _, .nil => .nil
  | _, _, 0, .cons _ t => .cons r t
  | _, _, i + 1, .cons q t => .cons q (Vals.set r i t)
theorem Vals.append : ∀ {xs ys : List V} {us ws : List Value}, Vals xs us → Vals ys ws → Vals (xs ++ ys) (us ++ ws)
  | _, _, _, _, .nil, s => s
  | _, _, _, _, .cons r t, s => .cons r (Vals.append t s)
theorem Vals.take : ∀ {xs : List V} {us : List Value} (n : Nat), Vals xs us → Vals (xs.take n) (us.take n)
  | _, _, 0, _ => .nil
  | _, _, _ + 1, .nil => .nil
  | _, _, n + 1, .cons r t => .cons r (Vals.take n t)
theorem Vals.drop : ∀ {xs : List V} {us : List Value} (n : Nat), Vals xs us → Vals (xs.drop n) (us.drop n)
  | _, _, 0, r => r
  | _, _, _ + 1, .nil => .nil
  | _, _, n + 1, .cons _ t => Vals.drop n t
theorem Vals.none_of : ∀ {xs : List V} {us : List Value} {i : Nat}, Vals xs us → xs[i]? = none → us[i]? = none := fun {xs us i} r e => by
  have h1 := r.length
  have h2 : xs.length ≤ i := List.getElem?_eq_none_iff.mp e
  exact List.getElem?_eq_none_iff.mpr (by omega)

def RelO : Option V → Option Value → Prop
  | some v, some u => RelV v u
  | none, none => True
  | _, _ => False
def KV {κ : Type} : List (κ × V) → List (κ × Value) → Prop := Paired fun (p : κ × V) (q : κ × Value) => p.1 = q.1 ∧ RelV p.2 q.2

/-- a key of a dict (00_mix): an int or a text -/
def kV : Key → V
  | .inl i => .int i
  | .inr x => .str x

/-- what stands at a tracked address -/
inductive HO where
  /-- a list -/
  | lst (xs : List V)
  /-- a tuple (never changes) -/
  | tup (xs : List V)
  /-- a dict whose keys are ints and texts; one whose keys are tuples of ints and texts (the empty one is both) -/
  | dK (kvs : List (Key × V)) | dT (kvs : List (List Key × V))
  /-- a set of ints: its members, its size -/
  | set (S : Int → Bool) (n : Nat)
  /-- an instance of the class at C, its dict at dx, its attributes -/
  | ins (C dx : Addr) (fs : List (Str × V))
  /-- the dict of the instance at x -/
  | own (x : Addr)
  /-- the dict of an exception -/
  | xd (fs : List (Str × V))
  /-- a bound method, f of x -/
  | met (f x : Addr)
  /-- a range object lo, lo + 1, .. below hi -/
  | rng (lo hi : Int)
  /-- a thing that is known to the object (the script; a dict while a loop walks it): read, never written while it is so -/
  | frz (o : Obj) (u : HO)
  /-- a code object's table -/
  | tbl (ps : Array Value)
  /-- any other thing, by what is true of its one object (a def of one's own: SetO a S n := HO.ext fun h => ..) -/
  | ext (φ : Heap → Prop)

abbrev Hp := Addr → Option HO
def upd (H : Hp) (a : Addr) (o : HO) : Hp := fun b => if b = a then some o else H b
theorem upd_same {H : Hp} {a : Addr} {o : HO} : upd H a o a = some o := by unfold upd; rw [if_pos rfl]
theorem upd_ne {H : Hp} {a b : Addr} {o : HO} (h : b ≠ a) : upd H a o b = H b := by unfold upd; rw [if_neg h]
theorem upd_upd {H : Hp} {a : Addr} {o u : HO} : upd (upd H a o) a u = upd H a u := by
  funext b; unfold upd; split <;> rfl
/-- two objects of different content stand apart -/
theorem ne_of {H : Hp} {a b : Addr} {o u : HO} (h : H a = some o) (h' : H b = some u) (d : o ≠ u) : a ≠ b := by
  intro e; subst e; rw [h] at h'; exact d (Option.some.inj h')
theorem ne_of_none {H : Hp} {a b : Addr} {o : HO} (h : H a = some o) (h' : H b = none) : a ≠ b := by
  intro e; subst e; rw [h] at h'; cases h'

section
variable (P : Program) (w : World)
def ObjOk (H : Hp) (h : Heap) (a : Addr) : HO → Prop
  | .lst xs => xs.length ≤ sizeLine ∧ ∃ (its : List Value) (n : Nat), Vals xs its ∧ h.get? a = some { cls := .type "list", data := .seq its.toArray n }
  | .tup xs => xs.length ≤ sizeLine ∧ ∃ its : List Value, Vals xs its ∧ IsTup h a its.toArray
  | .dK kvs => kvs.length ≤ sizeLine ∧ (a == sysModules) = false ∧ ∃ vs, KV kvs vs ∧ h.DictOf (mixKind P w) a vs
  | .dT kvs => kvs.length ≤ sizeLine ∧ (a == sysModules) = false ∧ ∃ xs : List (List Key × Addr × Value),
      Paired (fun (p : List Key × V) (q : List Key × Addr × Value) => p.1 = q.1 ∧ H q.2.1 = some (.tup (p.1.map kV)) ∧ RelV p.2 q.2.2) kvs xs ∧
      ∃ o es ep, h.get? a = some o ∧ o.ExactDict ∧ o.data = .dict es ep ∧ es.toList = xs.map (entryOfKey (tupleKind (mixKind P w))) ∧ (xs.map (·.1)).Nodup
  | .set S n => h.SetOf (intKind P w) a S n
  | .ins C dx fs => H dx = some (.own a) ∧ fs.length ≤ 1000 ∧ dx ≠ a ∧ h.get? a = some (PySem.W.instObj C dx) ∧
      ∃ mA, h.Ns1 dx mA ∧ (∀ f, RelO (fs.lookup f) (mA f)) ∧ PySem.Within mA (fs.map (·.1))
  | .own _ => ∃ o, h.get? a = some o
  | .xd fs => ∃ mA, h.Ns1 a mA ∧ ∀ f, RelO (fs.lookup f) (mA f)
  | .rng lo hi => ∃ t u v, h.get? a = some { cls := .type "range", data := .fields #[.int lo t, .int hi u, .int 1 v] }
  | .frz o u => h.get? a = some o ∧ ObjOk H h a u
  | .tbl ps => h.get? a = some { cls := .none, data := .fields ps }
  | .met f x => h.get? a = some (PySem.W.methodObj (.ref f) (.ref x))
  | .ext φ => φ h ∧ (∃ o, h.get? a = some o) ∧ ∀ h1 h2 : Heap, φ h1 → (∀ o, h1.get? a = some o → h2.get? a = some o) → φ h2
/-- the abstract heap is held -/
def HOk (H : Hp) (h : Heap) : Prop := ∀ a o, H a = some o → ObjOk P w H h a o
end

section
variable {P : Program} {w : World} {H H' : Hp} {h h' : Heap} {a : Addr} {o : HO}
theorem ObjOk.lt (x : ObjOk P w H h a o) : a < h.objs.size := by
  cases o with
  | lst xs => obtain ⟨_, _, _, _, e⟩ := x; exact Heap.lt_size e
  | tup xs => obtain ⟨_, _, _, p⟩ := x; exact p.lt
  | dK kvs => obtain ⟨_, _, _, _, o, _, _, e, _⟩ := x; exact Heap.lt_size e
  | dT kvs => obtain ⟨_, _, _, _, o, _, _, e, _⟩ := x; exact Heap.lt_size e
  | set S n => obtain ⟨o, _, _, _, e, _⟩ := x; exact Heap.lt_size e
  | ins C dx fs => obtain ⟨_, _, _, e, _⟩ := x; exact Heap.lt_size e
  | own y => obtain ⟨_, e⟩ := x; exact Heap.lt_size e
  | xd fs => obtain ⟨_, ⟨_, _, _, e, _⟩, _⟩ := x; exact Heap.lt_size e
  | rng lo hi => obtain ⟨_, _, _, e⟩ := x; exact Heap.lt_size e
  | frz ob u => obtain ⟨e, _⟩ := x; exact Heap.lt_size e
  | tbl ps => exact Heap.lt_size (show h.get? a = some _ from x)
  | met f y => exact Heap.lt_size (show h.get? a = some _ from x)
  | ext φ => obtain ⟨_, ⟨_, e⟩, _⟩ := x; exact Heap.lt_size e
theorem Paired.mapP {α β : Type} {F G : α → β → Prop} : ∀ {l₁ : List α} {l₂ : List β}, Paired F l₁ l₂ → (∀ a b, F a b → G a b) → Paired G l₁ l₂
  | _, _, .nil, _ => .nil
  | _, _, .cons r t, f => .cons (f _ _ r) (Paired.mapP t f)
theorem Paired.imp' {α β : Type} {F G : α → β → Prop} (f : ∀ a b, F a b → G a b) {l₁ : List α} {l₂ : List β} (r : Paired F l₁ l₂) : Paired G l₁ l₂ := Paired.mapP r f
/-- what an object's description leans on: its own object, its own dict, the tuples -/
theorem ObjOk.stay (x : ObjOk P w H h a o) (k : ∀ b u, (b = a ∨ H b = some (.own a)) → h.get? b = some u → h'.get? b = some u)
    (ho : ∀ b, H b = some (.own a) → H' b = some (.own a)) (ht : ∀ b xs, H b = some (.tup xs) → H' b = some (.tup xs)) : ObjOk P w H' h' a o := by
  induction o with
  | lst xs => obtain ⟨z, its, n, r, e⟩ := x; exact ⟨z, its, n, r, k _ _ (.inl rfl) e⟩
  | tup xs => obtain ⟨z, its, r, ob, e, c⟩ := x; exact ⟨z, its, r, ob, k _ _ (.inl rfl) e, c⟩
  | dK kvs => obtain ⟨z, y, vs, r, ob, es, ep, e, c⟩ := x; exact ⟨z, y, vs, r, ob, es, ep, k _ _ (.inl rfl) e, c⟩
  | dT kvs =>
    obtain ⟨z, y, xs, r, ob, es, ep, e, c⟩ := x
    exact ⟨z, y, xs, Paired.mapP r fun p q z => ⟨z.1, ht _ _ z.2.1, z.2.2⟩, ob, es, ep, k _ _ (.inl rfl) e, c⟩
  | set S n => obtain ⟨ob, es, ep, t, e, c⟩ := x; exact ⟨ob, es, ep, t, k _ _ (.inl rfl) e, c⟩
  | ins C dx fs =>
    obtain ⟨d, z, ne, e, mA, ⟨od, es, ep, e2, c⟩, r⟩ := x
    exact ⟨ho _ d, z, ne, k _ _ (.inl rfl) e, mA, ⟨od, es, ep, k _ _ (.inr d) e2, c⟩, r⟩
  | own y => obtain ⟨ob, e⟩ := x; exact ⟨ob, k _ _ (.inl rfl) e⟩
  | xd fs => obtain ⟨mA, ⟨od, es, ep, e, c⟩, r⟩ := x; exact ⟨mA, ⟨od, es, ep, k _ _ (.inl rfl) e, c⟩, r⟩
  | rng lo hi => obtain ⟨t, u, v, e⟩ := x; exact ⟨t, u, v, k _ _ (.inl rfl) e⟩
  | frz ob u ih => obtain ⟨e, q⟩ := x; exact ⟨k _ _ (.inl rfl) e, ih q⟩
  | tbl ps =>
    have e : h.get? a = some { cls := .none, data := .fields ps } := x
    show h'.get? a = some { cls := .none, data := .fields ps }
    exact k a _ (.inl rfl) e
  | met f y =>
    have e : h.get? a = some (PySem.W.methodObj (.ref f) (.ref y)) := x
    show h'.get? a = some (PySem.W.methodObj (.ref f) (.ref y))
    exact k a _ (.inl rfl) e
  | ext φ => obtain ⟨p, ⟨o, e⟩, st⟩ := x; exact ⟨st _ _ p fun o q => k _ _ (.inl rfl) q, ⟨o, k _ _ (.inl rfl) e⟩, st⟩
theorem HOk.lt (x : HOk P w H h) (e : H a = some o) : a < h.objs.size := (x a o e).lt
theorem HOk.fresh (x : HOk P w H h) (e : h.objs.size ≤ a) : H a = none := by
  cases q : H a with
  | none => rfl
  | some u => exact absurd (Nat.lt_of_lt_of_le (x.lt q) e) (Nat.lt_irrefl _)
/-- every object of the heap is kept -/
theorem HOk.kept (x : HOk P w H h) (k : ∀ b u, h.get? b = some u → h'.get? b = some u) : HOk P w H h' := fun a o e =>
  (x a o e).stay (fun b u _ q => k b u q) (fun _ q => q) fun _ _ q => q
/-- a new object is laid and tracked -/
theorem HOk.laid (x : HOk P w H h) (k : ∀ b u, h.get? b = some u → h'.get? b = some u) (hp : h.objs.size ≤ a) (new : ObjOk P w (upd H a o) h' a o) : HOk P w (upd H a o) h' := fun b u e => by
  have hn := x.fresh hp
  by_cases hb : b = a
  · subst hb; rw [upd_same] at e; cases e; exact new
  · rw [upd_ne hb] at e
    exact (x b u e).stay (fun c v _ q => k c v q) (fun c q => by rw [upd_ne (ne_of_none q hn)]; exact q) fun c xs q => by rw [upd_ne (ne_of_none q hn)]; exact q
end

/-- what may be read as u: it is u, or a known u -/
def Rd (H : Hp) (a : Addr) (u : HO) : Prop := H a = some u ∨ ∃ o, H a = some (.frz o u)
theorem Rd.of {H : Hp} {a : Addr} {u : HO} (h : H a = some u) : Rd H a u := .inl h
theorem Rd.ok {P : Program} {w : World} {H : Hp} {h : Heap} {a : Addr} {u : HO} (r : Rd H a u) (x : HOk P w H h) : ObjOk P w H h a u := by
  rcases r with r | ⟨o, r⟩
  · exact x a u r
  · obtain ⟨_, q⟩ := x a _ r
    exact q
/-- what may be written -/
def Mut : Option HO → Prop
  | some (.lst _) => True
  | some (.dK _) => True
  | some (.dT _) => True
  | some (.set _ _) => True
  | some (.ins _ _ _) => True
  | some (.ext _) => True
  | _ => False
section
variable {P : Program} {w : World} {H : Hp} {h h' : Heap} {x e : Addr} {o' : HO}
/-- the object at e is changed: x itself, or the dict of the instance x -/
theorem HOk.write (ok : HOk P w H h) (mu : Mut (H x)) (he : e = x ∨ H e = some (.own x)) (k : ∀ b u, b ≠ e → h.get? b = some u → h'.get? b = some u) (heo : ∃ u, h'.get? e = some u)
    (new : ObjOk P w (upd H x o') h' x o') : HOk P w (upd H x o') h' := fun b u q => by
  have nown : ∀ c y, H c = some (.own y) → c ≠ x := fun c y r z => by subst z; rw [r] at mu; exact mu
  have ntup : ∀ c xs, H c = some (.tup xs) → c ≠ x := fun c xs r z => by subst z; rw [r] at mu; exact mu
  by_cases hb : b = x
  · subst hb; rw [upd_same] at q; cases q; exact new
  · rw [upd_ne hb] at q
    by_cases hbe : b = e
    · have q' : H b = some (.own x) := by
        rcases he with z | z
        · exact absurd (hbe.trans z) hb
        · rw [hbe]; exact z
      rw [q] at q'; cases q'
      obtain ⟨v, hv⟩ := heo
      exact ⟨v, by rw [hbe]; exact hv⟩
    · refine (ok b u q).stay (fun c v hc r => k c v ?_ r) (fun c r => by rw [upd_ne (nown c b r)]; exact r) fun c xs r => by rw [upd_ne (ntup c xs r)]; exact r
      rcases hc with rfl | hc
      · exact hbe
      · rintro rfl
        rcases he with z | z
        · exact nown c b hc z
        · rw [hc] at z; cases z; exact hb rfl
end

/-! ### kept unless tracked; of the frames at fs (the callers') the slots may change (an exception that passes writes there); of the records at ex (iterators) nothing is said -/
structure Un (fs ex : List Addr) (H H' : Hp) (h h' : Heap) : Prop where
  keep : ∀ b o, h.get? b = some o → H b = none → b ∉ fs → b ∉ ex → h'.get? b = some o
  slot : ∀ b o, h.get? b = some o → H b = none → b ∈ fs → b ∉ ex → ∃ sl, h'.get? b = some { o with slots := sl }
  free : ∀ b o, h.get? b = some o → H b = none → b ∉ ex → H' b = none
  there : ∀ b o, h.get? b = some o → b ∉ ex → ∃ o', h'.get? b = some o'
  tups : ∀ b xs, H b = some (.tup xs) → H' b = some (.tup xs)
  frzs : ∀ b o u, H b = some (.frz o u) → H' b = some (.frz o u)
  tbls : ∀ b ps, H b = some (.tbl ps) → ∃ more, H' b = some (.tbl (ps ++ more))
section
variable {fs fs' ex ex' : List Addr} {H H1 H2 : Hp} {h h1 h2 h' : Heap} {a x e : Addr} {o : HO}
theorem Un.any (u : Un fs ex H H1 h h1) {b : Addr} {ob : Obj} (q : h.get? b = some ob) (n : H b = none) (hx : b ∉ ex) : ∃ sl, h1.get? b = some { ob with slots := sl } := by
  by_cases hb : b ∈ fs
  · exact u.slot b ob q n hb hx
  · exact ⟨ob.slots, u.keep b ob q n hb hx⟩
theorem Un.trans (a : Un fs ex H H1 h h1) (b : Un fs ex H1 H2 h1 h2) : Un fs ex H H2 h h2 where
  keep := fun c ob q n hc hx => b.keep c ob (a.keep c ob q n hc hx) (a.free c ob q n hx) hc hx
  slot := fun c ob q n hc hx => by
    obtain ⟨sl, e1⟩ := a.slot c ob q n hc hx
    obtain ⟨sl', e2⟩ := b.slot c _ e1 (a.free c ob q n hx) hc hx
    exact ⟨sl', e2⟩
  free := fun c ob q n hx => by
    obtain ⟨o', e1⟩ := a.there c ob q hx
    exact b.free c o' e1 (a.free c ob q n hx) hx
  there := fun c ob q hx => by
    obtain ⟨o', e1⟩ := a.there c ob q hx
    exact b.there c o' e1 hx
  tups := fun c xs q => b.tups c xs (a.tups c xs q)
  frzs := fun c ob xs q => b.frzs c ob xs (a.frzs c ob xs q)
  tbls := fun c ps q => by
    obtain ⟨m1, e1⟩ := a.tbls c ps q
    obtain ⟨m2, e2⟩ := b.tbls c _ e1
    exact ⟨m1 ++ m2, by rw [e2, Array.append_assoc]⟩
theorem Un.kept (k : ∀ b u, h.get? b = some u → h'.get? b = some u) : Un fs ex H H h h' :=
  ⟨fun b ob q _ _ _ => k b ob q, fun b ob q _ _ _ => ⟨ob.slots, k b ob q⟩, fun _ _ _ n _ => n, fun b ob q _ => ⟨ob, k b ob q⟩, fun _ _ q => q, fun _ _ _ q => q, fun _ ps q => ⟨#[], by rw [q]; simp⟩⟩
theorem Un.refl : Un fs ex H H h h := Un.kept fun _ _ q => q
theorem Un.laid (k : ∀ b u, h.get? b = some u → h'.get? b = some u) (hp : h.objs.size ≤ a) (hn : H a = none) : Un fs ex H (upd H a o) h h' where
  keep := fun b u q _ _ _ => k b u q
  slot := fun b u q _ _ _ => ⟨u.slots, k b u q⟩
  free := fun b u q n _ => by rw [upd_ne (Nat.ne_of_lt (Nat.lt_of_lt_of_le (Heap.lt_size q) hp))]; exact n
  there := fun b u q _ => ⟨u, k b u q⟩
  tups := fun b xs q => by rw [upd_ne (ne_of_none q hn)]; exact q
  frzs := fun b u xs q => by rw [upd_ne (ne_of_none q hn)]; exact q
  tbls := fun b ps q => ⟨#[], by rw [upd_ne (ne_of_none q hn), q]; simp⟩
theorem Un.write (mu : Mut (H x)) (he : e = x ∨ H e = some (.own x)) (k : ∀ b u, b ≠ e → h.get? b = some u → h'.get? b = some u) (heo : ∃ u, h'.get? e = some u) : Un fs ex H (upd H x o) h h' := by
  have hx : ∀ b, H b = none → b ≠ x := fun b n z => by subst z; rw [n] at mu; exact mu
  have hb : ∀ b, H b = none → b ≠ e := fun b n z => by
    subst z
    rcases he with r | r
    · exact hx b n r
    · rw [n] at r; cases r
  have hm : ∀ b u, H b = some u → ¬ Mut (some u) → b ≠ x := fun b u q nm z => by subst z; rw [q] at mu; exact nm mu
  refine ⟨fun b u q n _ _ => k b u (hb b n) q, fun b u q n _ _ => ⟨u.slots, k b u (hb b n) q⟩, fun b u q n _ => by rw [upd_ne (hx b n)]; exact n, fun b u q _ => ?_,
    fun b xs q => by rw [upd_ne (hm b _ q fun z => z)]; exact q, fun b u xs q => by rw [upd_ne (hm b _ q fun z => z)]; exact q, fun b ps q => ⟨#[], by rw [upd_ne (hm b _ q fun z => z), q]; simp⟩⟩
  by_cases hbe : b = e
  · subst hbe; exact heo
  · exact ⟨u, k b u hbe q⟩
theorem Un.mono (u : Un fs ex H H1 h h1) (hs : ∀ b ∈ fs, b ∈ fs') (hx : ∀ b ∈ ex, b ∈ ex') : Un fs' ex' H H1 h h1 :=
  ⟨fun b ob q n hb he => u.keep b ob q n (fun z => hb (hs b z)) fun z => he (hx b z), fun _ _ q n _ he => u.any q n fun z => he (hx _ z), fun b ob q n he => u.free b ob q n fun z => he (hx b z), fun b ob q he => u.there b ob q fun z => he (hx b z), u.tups, u.frzs, u.tbls⟩
end

/-! ### the heap without what is tracked -/
def trk (h : Heap) (H : Hp) : List Addr := (List.range h.objs.size).filter fun a => (H a).isSome
def hidT (h : Heap) (H : Hp) : Heap := PySem.W.hideAll h (trk h H)
theorem hidT_size (h : Heap) (H : Hp) : (hidT h H).objs.size = h.objs.size := PySem.W.hideAll_size _ _
theorem hidT_get {h : Heap} {H : Hp} {b : Addr} {o : Obj} (e : h.get? b = some o) (n : H b = none) : (hidT h H).get? b = some o :=
  PySem.W.hideAll_get _ e fun hm => by
    have q : (H b).isSome = true := (List.mem_filter.mp hm).2
    rw [n] at q; simp at q
theorem of_hidT {h : Heap} {H : Hp} {b : Addr} {o : Obj} (e : (hidT h H).get? b = some o) : h.get? b = some o ∧ H b = none := by
  have e' : h.get? b = some o := PySem.W.of_hideAll (trk h H) e
  refine ⟨e', ?_⟩
  cases q : H b with
  | none => rfl
  | some x =>
    have hm : b ∈ trk h H := List.mem_filter.mpr ⟨List.mem_range.mpr (Heap.lt_size e'), by simp [q]⟩
    have z : (hidT h H).get? b = none := PySem.W.hideAll_none (trk h H) hm
    rw [z] at e; cases e

/-! ### OpenK's ledger, filled with every new object but one -/
def allNews (g h : Heap) (L : Addr) : List (Addr × Obj) := (List.range h.objs.size).filterMap fun a => if a = L ∨ (g.get? a).isSome = true then none else (h.get? a).map fun o => (a, o)
theorem mem_allNews {g h : Heap} {L a : Addr} {o : Obj} (h1 : a ≠ L) (h2 : g.get? a = none) (h3 : h.get? a = some o) : (a, o) ∈ allNews g h L :=
  List.mem_filterMap.mpr ⟨a, List.mem_range.mpr (Heap.lt_size h3), by simp [h1, h2, h3]⟩
theorem of_mem_allNews {g h : Heap} {L : Addr} {p : Addr × Obj} (hp : p ∈ allNews g h L) : p.1 ≠ L ∧ g.get? p.1 = none ∧ h.get? p.1 = some p.2 := by
  obtain ⟨b, _, e⟩ := List.mem_filterMap.mp hp
  split at e
  · cases e
  · rename_i hn
    cases q : h.get? b with
    | none => rw [q] at e; simp at e
    | some u =>
      rw [q] at e
      simp only [Option.map_some, Option.some.injEq] at e
      subst e
      refine ⟨fun z => hn (.inl z), ?_, q⟩
      show g.get? b = none
      cases r : g.get? b with
      | none => rfl
      | some v => exact (hn (.inr (by simp [r]))).elim
def rest (g h : Heap) (L d : Addr) : List (Addr × Obj) := (allNews g h L).filter fun p => decide (p.1 ≠ d)
theorem rest_ne {g h : Heap} {L d : Addr} : ∀ p ∈ rest g h L d, p.1 ≠ d := fun p hp => of_decide_eq_true (List.mem_filter.mp hp).2
theorem mem_rest {g h : Heap} {L d a : Addr} {o : Obj} (h1 : a ≠ L) (h2 : g.get? a = none) (h3 : h.get? a = some o) (h4 : a ≠ d) : (a, o) ∈ rest g h L d :=
  List.mem_filter.mpr ⟨mem_allNews h1 h2 h3, decide_eq_true h4⟩
theorem news_all {g h : Heap} {L : Addr} : News g L h (allNews g h L) := fun p hp => let ⟨a, b, c⟩ := of_mem_allNews hp; ⟨c, a, b⟩
theorem news_at {g h : Heap} {L d : Addr} {o : Obj} (h1 : d ≠ L) (h2 : g.get? d = none) (h3 : h.get? d = some o) : News g L h ((d, o) :: rest g h L d) := fun p hp => by
  rcases List.mem_cons.mp hp with rfl | hp
  · exact ⟨h3, h1, h2⟩
  · exact news_all p (List.mem_filter.mp hp).1
/-- behind a rule that changed d alone: all else but the frame is kept -/
theorem kept_of_news {g h h' : Heap} {L d : Addr} {m : Str → Option Value} (k : ∀ b o, g.get? b = some o → h.get? b = some o) (F : Fr g L h' m) (N : News g L h' (rest g h L d)) :
    ∀ b o, b ≠ L → b ≠ d → h.get? b = some o → h'.get? b = some o := fun b o h1 h2 e => by
  cases q : g.get? b with
  | some u =>
    have := k b u q
    rw [e] at this; cases this
    exact F.keep b _ q
  | none => exact (N (b, o) (mem_rest h1 q e h2)).1
end L2

namespace L2
open PySem PySem.Spec PyProof.Rows

/-- the module's facts, over the base: the heap at the law's entry without what is tracked there -/
structure Mod (K : PySem.W.Frag) (mg : Str → Option Value) (base : Heap) : Prop where
  kin : K.In base
  glob : base.Ns mainGlobals mg
  blt : ∃ mb, base.Ns builtinsNs mb ∧ ∀ x : Str, x ≠ "__name__" → mb x = bootBuiltins x
  nolimit : base.NoLimit

/-- the context: a def's body (or a comprehension's block) running. base: fixed through the whole law; s₀, H₀: the entry; outer: the frames whose slots others may change (a def's callers); stack: all frames that run;
   ex: iterators that were made ahead of the entry and are walked here (a comprehension's); fn: the names whose cells were made at the entry (a def: all; a comprehension's block: its own); calm: not within an except suite; pn: pins that every state bears; xe: what is wanted of an exception that leaves the code -/
structure Cx where
  prog : Program
  w : World
  K : PySem.W.Frag
  mg : Str → Option Value
  base : Heap
  A : Around
  N : List Str
  s₀ : Shared
  H₀ : Hp
  env : Env
  outer : List Env
  stack : List Env
  ex : List Addr
  fn : Str → Bool
  calm : Bool
  pn : List (Addr × Obj)
  xe : Value → Shared → Prop
/-- the callers' frames -/
def frs (l : List Env) : List Addr := l.filterMap (·.frame)
abbrev Cx.fs (X : Cx) : List Addr := frs X.outer

def Vis (sc : Scope) (x : Str) : Prop := sc.names.lookup x = some .local ∨ sc.names.lookup x = some .cell ∨ sc.names.lookup x = some .free
def Loc (sc : Scope) (x : Str) : Prop := sc.names.lookup x = some .local ∨ sc.names.lookup x = some .cell
def Look (env : Env) (h : Heap) (m : Str → Option Value) (x : Str) (u : Value) : Prop :=
  (env.kindOf x = some .local ∧ m x = some u) ∨ ((env.kindOf x = some .cell ∨ env.kindOf x = some .free) ∧ ∃ c, env.cells.lookup x = some c ∧ h.IsCell c (some u))

structure Cx.Ok (X : Cx) : Prop where
  mod : Mod X.K X.mg X.base
  kind : X.env.scope.kind = .function
  glob : X.env.globals = mainGlobals
  blt : X.env.builtins = builtinsNs
  above : X.s₀.heap.objs.size ≤ X.env.locals
  inj : ∀ x y c, X.env.cells.lookup x = some c → X.env.cells.lookup y = some c → x = y
  has : ∀ x, (X.env.kindOf x = some .cell ∨ X.env.kindOf x = some .free) → ∃ c, X.env.cells.lookup x = some c
  cab : ∀ x c, X.fn x = true → X.env.cells.lookup x = some c → X.s₀.heap.objs.size ≤ c
  hd : X.calm = true → X.A.handled = none
  frames : X.A.frames = some X.stack
  stk : X.stack = X.outer ∨ (X.stack = X.env :: X.outer ∧ X.env.frame = some X.env.locals)
  exf : ∀ b ∈ X.ex, b ≠ X.env.locals ∧ ∀ x c, X.env.cells.lookup x = some c → c ≠ b
  bs : ∀ b o, X.base.get? b = some o → X.s₀.heap.get? b = some o ∧ X.H₀ b = none
  bsz : X.base.objs.size ≤ X.s₀.heap.objs.size
  noex : ∀ b o, X.base.get? b = some o → b ∉ X.ex
  exfs : ∀ b ∈ X.ex, b ∉ X.fs
  funs : X.s₀.heap.FunFrames X.base X.outer
  frf : ∀ b ∈ X.fs, X.H₀ b = none

structure Inv (X : Cx) (pins : List (Addr × Obj)) (σ : List (Option V)) (H : Hp) (s : Shared) : Prop where
  ok : X.Ok
  os : s.os = X.s₀.os
  bare : AllBare s.gens
  base : Un X.fs X.ex X.H₀ H X.s₀.heap s.heap
  loc : ∃ m, s.heap.Ns X.env.locals m ∧ ∀ (i : Nat) (x : Str) (v : V), X.N[i]? = some x → σ[i]? = some (some v) → Vis X.env.scope x → ∃ u, RelV v u ∧ Look X.env s.heap m x u
  cell : ∀ x c, X.env.cells.lookup x = some c → ∃ v, s.heap.IsCell c v
  free : H X.env.locals = none
  freeC : ∀ x c, X.env.cells.lookup x = some c → H c = none
  pin : ∀ p ∈ X.pn ++ pins, s.heap.get? p.1 = some p.2 ∧ H p.1 = none ∧ p.1 ≠ X.env.locals ∧ p.1 ∉ X.fs ∧ ∀ v, p.2.data ≠ .cell v
  hok : HOk X.prog X.w H s.heap
  len : σ.length = X.N.length

section
variable {X : Cx} {pins : List (Addr × Obj)} {σ : List (Option V)} {H H' : Hp} {s : Shared} {h' : Heap}

theorem Cx.Ok.nofr (ok : X.Ok) {b : Addr} {o : Obj} (e : X.base.get? b = some o) : b ∉ X.fs := fun hb => by
  have := (ok.funs.mem hb).1
  rw [e] at this; cases this
theorem Inv.bs (I : Inv X pins σ H s) : ∀ b o, X.base.get? b = some o → s.heap.get? b = some o ∧ H b = none := fun b o e =>
  ⟨I.base.keep b o (I.ok.bs b o e).1 (I.ok.bs b o e).2 (I.ok.nofr e) (I.ok.noex b o e), I.base.free b o (I.ok.bs b o e).1 (I.ok.bs b o e).2 (I.ok.noex b o e)⟩
theorem Inv.bk (I : Inv X pins σ H s) : ∀ b o, X.base.get? b = some o → s.heap.get? b = some o := fun b o e => (I.bs b o e).1
theorem Inv.mod (I : Inv X pins σ H s) : Mod X.K X.mg X.base := I.ok.mod
theorem Inv.kIn (I : Inv X pins σ H s) : X.K.In s.heap := I.ok.mod.kin.keeps I.bk
theorem Inv.nolimit (I : Inv X pins σ H s) : s.heap.NoLimit := I.ok.mod.nolimit.keeps I.bk
/-- the frame over the base: for OpenK's rules (K.In X.base is I.mod.kin) -/
theorem Inv.fr (I : Inv X pins σ H s) : ∃ m, Fr X.base X.env.locals s.heap m :=
  let ⟨m, hn, _⟩ := I.loc
  ⟨m, hn, I.bk, Nat.le_trans I.ok.bsz I.ok.above⟩
theorem Inv.lt (I : Inv X pins σ H s) : X.env.locals < s.heap.objs.size := let ⟨_, hn, _⟩ := I.loc; hn.lt
theorem Inv.sz (I : Inv X pins σ H s) : X.s₀.heap.objs.size ≤ s.heap.objs.size := Nat.le_trans I.ok.above (Nat.le_of_lt I.lt)
theorem Inv.nofs (I : Inv X pins σ H s) {a : Addr} (h : s.heap.objs.size ≤ a) : a ∉ X.fs := fun hb => by
  obtain ⟨_, o, ho, _⟩ := I.ok.funs.mem hb
  exact absurd (Nat.lt_of_lt_of_le (Heap.lt_size ho) (Nat.le_trans I.sz h)) (Nat.lt_irrefl _)
theorem Inv.cne (I : Inv X pins σ H s) : ∀ x c, X.env.cells.lookup x = some c → c ≠ X.env.locals := fun x c e z => by
  obtain ⟨v, o, ho, hd⟩ := I.cell x c e
  obtain ⟨m, ⟨o', es, ep, ho', hd', _⟩, _⟩ := I.loc
  rw [z, ho'] at ho; cases ho; rw [hd'] at hd; cases hd
theorem Inv.funs (I : Inv X pins σ H s) : s.heap.FunFrames X.base X.outer := by
  have all : ∀ (l : List Env), (∀ b ∈ frs l, b ∈ X.fs) → X.s₀.heap.FunFrames X.base l → s.heap.FunFrames X.base l := by
    intro l
    induction l with
    | nil => intro _ _; trivial
    | cons env r ih =>
      intro hs hl
      obtain ⟨hk, ⟨L, o, hf, hn, ho, hd⟩, hr⟩ := hl
      have hL : L ∈ X.fs := hs L (by unfold frs; rw [List.filterMap_cons, hf]; exact List.mem_cons_self)
      obtain ⟨sl, e⟩ := I.base.slot L o ho (I.ok.frf L hL) hL fun z => I.ok.exfs L z hL
      exact ⟨hk, ⟨L, _, hf, hn, e, hd⟩, ih (fun b hb => hs b (by unfold frs; rw [List.filterMap_cons, hf]; exact List.mem_cons_of_mem _ hb)) hr⟩
  exact all X.outer (fun _ hb => hb) I.ok.funs

/-- the frames that run, for a call -/
theorem Inv.stack (I : Inv X pins σ H s) : s.heap.FunFrames X.base X.stack := by
  rcases I.ok.stk with e | ⟨e, hf⟩
  · rw [e]; exact I.funs
  · rw [e]
    obtain ⟨m, hn, _⟩ := I.loc
    refine .cons (by rw [I.ok.kind]; decide) hf hn ?_ I.funs
    exact Heap.get?_none_of_le (Nat.le_trans I.ok.bsz I.ok.above)
theorem Inv.stkSub (I : Inv X pins σ H s) : ∀ b ∈ frs X.stack, b ∈ X.env.locals :: X.fs := fun b hb => by
  rcases I.ok.stk with e | ⟨e, hf⟩
  · rw [e] at hb; exact List.mem_cons_of_mem _ hb
  · rw [e] at hb
    unfold frs at hb
    rw [List.filterMap_cons, hf] at hb
    exact hb
theorem Inv.stkFree (I : Inv X pins σ H s) : ∀ b ∈ frs X.stack, H b = none := fun b hb => by
  rcases List.mem_cons.mp (I.stkSub b hb) with e | hb
  · rw [e]; exact I.free
  · obtain ⟨_, o, ho, _⟩ := I.ok.funs.mem hb
    exact I.base.free b o ho (I.ok.frf b hb) fun z => I.ok.exfs b z hb

/-- THE STEP: the untracked objects but the frame and the records at ch are kept (the callers' frames up to slots), the frame's map is kept, the new abstract heap is held -/
theorem Inv.step {g' : Array GenState} {t' : Nat} {d' : Drawn} {ch : List Addr} (I : Inv X pins σ H s)
    (hch : ∀ b ∈ ch, (b ∈ X.ex ∨ X.s₀.heap.objs.size ≤ b) ∧ b ≠ X.env.locals ∧ (∀ x c, X.env.cells.lookup x = some c → c ≠ b) ∧ ∀ p ∈ X.pn ++ pins, p.1 ≠ b)
    (keep : ∀ b o, b ≠ X.env.locals → b ∉ X.fs → b ∉ ch → s.heap.get? b = some o → H b = none → h'.get? b = some o)
    (slot : ∀ b o, b ≠ X.env.locals → b ∈ X.fs → b ∉ ch → s.heap.get? b = some o → H b = none → ∃ sl, h'.get? b = some { o with slots := sl }) (free : ∀ b o, b ∉ ch → s.heap.get? b = some o → H b = none → H' b = none)
    (there : ∀ b o, b ∉ ch → s.heap.get? b = some o → ∃ o', h'.get? b = some o')
    (tups : ∀ b xs, H b = some (.tup xs) → H' b = some (.tup xs)) (frzs : ∀ b o u, H b = some (.frz o u) → H' b = some (.frz o u)) (tbls : ∀ b ps, H b = some (.tbl ps) → ∃ more, H' b = some (.tbl (ps ++ more)))
    (ns : ∀ m, s.heap.Ns X.env.locals m → h'.Ns X.env.locals m) (hok : HOk X.prog X.w H' h') (hg : AllBare g') :
    Inv X pins σ H' { s with heap := h', gens := g', drawn := d', toks := t' } := by
  have neL : ∀ b o, X.s₀.heap.get? b = some o → b ≠ X.env.locals := fun b o e => Nat.ne_of_lt (Nat.lt_of_lt_of_le (Heap.lt_size e) I.ok.above)
  have neC : ∀ b o, X.s₀.heap.get? b = some o → b ∉ X.ex → b ∉ ch := fun b o e hx hb => by
    rcases (hch b hb).1 with z | z
    · exact hx z
    · exact absurd (Nat.lt_of_lt_of_le (Heap.lt_size e) z) (Nat.lt_irrefl _)
  have cellK : ∀ x c, X.env.cells.lookup x = some c → ∀ v, s.heap.IsCell c v → h'.IsCell c v := fun x c e v ⟨o, ho, hd⟩ => by
    have nch : c ∉ ch := fun z => (hch c z).2.2.1 x c e rfl
    by_cases hc : c ∈ X.fs
    · obtain ⟨sl, q⟩ := slot c o (I.cne x c e) hc nch ho (I.freeC x c e)
      exact ⟨_, q, hd⟩
    · exact ⟨o, keep c o (I.cne x c e) hc nch ho (I.freeC x c e), hd⟩
  refine ⟨I.ok, I.os, hg, ⟨fun b o e n hb hx => ?_, fun b o e n hb hx => ?_, fun b o e n hx => ?_, fun b o e hx => ?_, fun b xs e => tups b xs (I.base.tups b xs e), fun b o xs e => frzs b o xs (I.base.frzs b o xs e), fun b ps e => ?_⟩, ?_, fun x c e => ?_, ?_, fun x c e => ?_, fun p hp => ?_, hok, I.len⟩
  · exact keep b o (neL b o e) hb (neC b o e hx) (I.base.keep b o e n hb hx) (I.base.free b o e n hx)
  · obtain ⟨sl, e1⟩ := I.base.slot b o e n hb hx
    obtain ⟨sl', e2⟩ := slot b _ (neL b o e) hb (neC b o e hx) e1 (I.base.free b o e n hx)
    exact ⟨sl', e2⟩
  · obtain ⟨o', e1⟩ := I.base.there b o e hx
    exact free b o' (neC b o e hx) e1 (I.base.free b o e n hx)
  · obtain ⟨o', e1⟩ := I.base.there b o e hx
    exact there b o' (neC b o e hx) e1
  · obtain ⟨m1, e1⟩ := I.base.tbls b ps e
    obtain ⟨m2, e2⟩ := tbls b _ e1
    exact ⟨m1 ++ m2, by rw [e2, Array.append_assoc]⟩
  · obtain ⟨m, hn, hl⟩ := I.loc
    refine ⟨m, ns m hn, fun i x v e1 e2 e3 => ?_⟩
    obtain ⟨u, r, l⟩ := hl i x v e1 e2 e3
    refine ⟨u, r, ?_⟩
    rcases l with l | ⟨k, c, e, z⟩
    · exact .inl l
    · exact .inr ⟨k, c, e, cellK x c e _ z⟩
  · obtain ⟨v, z⟩ := I.cell x c e
    exact ⟨v, cellK x c e v z⟩
  · obtain ⟨m, ⟨o, _, _, ho, _⟩, _⟩ := I.loc
    exact free _ o (fun z => (hch _ z).2.1 rfl) ho I.free
  · obtain ⟨v, o, ho, hd⟩ := I.cell x c e
    exact free c o (fun z => (hch c z).2.2.1 x c e rfl) ho (I.freeC x c e)
  · obtain ⟨e, n, ne, nf, d⟩ := I.pin p hp
    have nch : p.1 ∉ ch := fun z => (hch p.1 z).2.2.2 p hp rfl
    exact ⟨keep p.1 p.2 ne nf nch e n, free p.1 p.2 nch e n, ne, nf, d⟩
/-- .. where the frame's own object is kept too -/
theorem Inv.un {t' : Nat} (I : Inv X pins σ H s) (u : Un X.fs [] H H' s.heap h') (hok : HOk X.prog X.w H' h') : Inv X pins σ H' { s with heap := h', toks := t' } := by
  obtain ⟨m, ⟨o, es, ep, ho, r⟩, _⟩ := id I.loc
  obtain ⟨sl, hL⟩ := u.any ho I.free (by simp)
  exact I.step (g' := s.gens) (d' := s.drawn) (ch := []) (fun _ z => nomatch z) (fun b o _ hb _ e n => u.keep b o e n hb (by simp)) (fun b o _ hb _ e n => u.slot b o e n hb (by simp)) (fun b o _ e n => u.free b o e n (by simp)) (fun b o _ e => u.there b o e (by simp)) u.tups u.frzs u.tbls (fun m' hm => by
    obtain ⟨o', es', ep', ho', r'⟩ := hm
    rw [ho] at ho'; cases ho'
    exact ⟨_, es', ep', hL, r'⟩) hok I.bare
/-- behind a call (or a comprehension's block): the slots of this frame may have changed too, the records at ch may have turned -/
theorem Inv.call {g' : Array GenState} {t' : Nat} {d' : Drawn} {ch : List Addr} (I : Inv X pins σ H s) (u : Un (frs X.stack) ch H H' s.heap h') (hok : HOk X.prog X.w H' h') (hg : AllBare g')
    (hch : ∀ b ∈ ch, (b ∈ X.ex ∨ X.s₀.heap.objs.size ≤ b) ∧ b ≠ X.env.locals ∧ (∀ x c, X.env.cells.lookup x = some c → c ≠ b) ∧ ∀ p ∈ X.pn ++ pins, p.1 ≠ b) :
    Inv X pins σ H' { s with heap := h', gens := g', drawn := d', toks := t' } := by
  obtain ⟨m, ⟨o, es, ep, ho, r⟩, _⟩ := id I.loc
  obtain ⟨sl, hL⟩ := u.any ho I.free fun z => (hch _ z).2.1 rfl
  exact I.step (ch := ch) hch (fun b o hL hb hc e n => u.keep b o e n (fun z => (List.mem_cons.mp (I.stkSub b z)).elim hL hb) hc) (fun b o _ _ hc e n => u.any e n hc) (fun b o hc e n => u.free b o e n hc) (fun b o hc e => u.there b o e hc) u.tups u.frzs u.tbls (fun m' hm => by
    obtain ⟨o', es', ep', ho', r'⟩ := hm
    rw [ho] at ho'; cases ho'
    exact ⟨_, es', ep', hL, r'⟩) hok hg
/-- an untracked record of ours (an iterator) has turned -/
theorem Inv.turned {t' : Nat} {it : Addr} (I : Inv X pins σ H s) (k : ∀ b o, b ≠ it → s.heap.get? b = some o → h'.get? b = some o) (hn : H it = none) (hL : it ≠ X.env.locals)
    (h1 : it ∈ X.ex ∨ X.s₀.heap.objs.size ≤ it) (h2 : ∀ x c, X.env.cells.lookup x = some c → c ≠ it) (h3 : ∀ p ∈ X.pn ++ pins, p.1 ≠ it) : Inv X pins σ H { s with heap := h', toks := t' } := by
  have nit : ∀ b u, H b = some u → b ≠ it := fun b u e z => by rw [z, hn] at e; cases e
  refine I.step (g' := s.gens) (d' := s.drawn) (ch := [it]) (fun b hb => ?_) (fun b o _ _ hc e _ => k b o (fun z => hc (by simp [z])) e) (fun b o _ _ hc e _ => ⟨o.slots, k b o (fun z => hc (by simp [z])) e⟩) (fun _ _ _ _ n => n)
    (fun b o hc e => ⟨o, k b o (fun z => hc (by simp [z])) e⟩) (fun _ _ e => e) (fun _ _ _ e => e) (fun b ps e => ⟨#[], by rw [e]; simp⟩) (fun m hm => ?_) (fun b u e => ?_) I.bare
  · have e : b = it := by simpa using hb
    subst e
    exact ⟨h1, hL, h2, h3⟩
  · obtain ⟨o, es, ep, ho, r⟩ := hm
    exact ⟨o, es, ep, k _ o (Ne.symm hL) ho, r⟩
  · refine (I.hok b u e).stay (fun c v hc q => k c v ?_ q) (fun _ q => q) fun _ _ q => q
    rcases hc with z | z
    · rw [z]; exact nit b u e
    · exact nit c _ z
theorem Inv.tok (I : Inv X pins σ H s) (t : Nat) : Inv X pins σ H { s with toks := t } := I.un (h' := s.heap) (t' := t) Un.refl I.hok
/-- all objects kept -/
theorem Inv.kept {t' : Nat} (I : Inv X pins σ H s) (k : ∀ b u, s.heap.get? b = some u → h'.get? b = some u) : Inv X pins σ H { s with heap := h', toks := t' } := I.un (Un.kept k) (I.hok.kept k)
/-- a new object laid and tracked -/
theorem Inv.laid {a : Addr} {o : HO} {t' : Nat} (I : Inv X pins σ H s) (k : ∀ b u, s.heap.get? b = some u → h'.get? b = some u) (hp : s.heap.objs.size ≤ a) (new : ObjOk X.prog X.w (upd H a o) h' a o) :
    Inv X pins σ (upd H a o) { s with heap := h', toks := t' } := I.un (Un.laid k hp (I.hok.fresh hp)) (I.hok.laid k hp new)
/-- an object written -/
theorem Inv.write {x e : Addr} {o : HO} {t' : Nat} (I : Inv X pins σ H s) (mu : Mut (H x)) (he : e = x ∨ H e = some (.own x)) (k : ∀ b u, b ≠ e → s.heap.get? b = some u → h'.get? b = some u) (heo : ∃ u, h'.get? e = some u)
    (new : ObjOk X.prog X.w (upd H x o) h' x o) : Inv X pins σ (upd H x o) { s with heap := h', toks := t' } := I.un (Un.write mu he k heo) (I.hok.write mu he k heo new)
/-- forgetting slots, pins -/
theorem Inv.weak {σ' : List (Option V)} (I : Inv X pins σ H s) (hl : σ'.length = σ.length) (w : ∀ (i : Nat) v, σ'[i]? = some (some v) → σ[i]? = some (some v)) : Inv X pins σ' H s :=
  ⟨I.ok, I.os, I.bare, I.base, let ⟨m, hn, hl'⟩ := I.loc; ⟨m, hn, fun i x v e1 e2 e3 => hl' i x v e1 (w i v e2) e3⟩, I.cell, I.free, I.freeC, I.pin, I.hok, hl.trans I.len⟩
theorem Inv.pins_of {pins' : List (Addr × Obj)} (I : Inv X pins σ H s) (h : ∀ p ∈ pins', s.heap.get? p.1 = some p.2 ∧ H p.1 = none ∧ p.1 ≠ X.env.locals ∧ p.1 ∉ X.fs ∧ ∀ v, p.2.data ≠ .cell v) : Inv X pins' σ H s :=
  ⟨I.ok, I.os, I.bare, I.base, I.loc, I.cell, I.free, I.freeC, fun p hp => (List.mem_append.mp hp).elim (fun z => I.pin p (List.mem_append_left _ z)) (h p), I.hok, I.len⟩

theorem nodup_ix {N : List Str} (hN : N.Nodup) {i j : Nat} {x : Str} (a : N[i]? = some x) (b : N[j]? = some x) : i = j := by
  obtain ⟨h1, e1⟩ := List.getElem?_eq_some_iff.mp a
  obtain ⟨h2, e2⟩ := List.getElem?_eq_some_iff.mp b
  exact (List.getElem_inj hN).mp (e1.trans e2.symm)

/-- a name is stored; what changed -/
theorem store_ok2 {M : Model} {A : Around} {E : Value → Shared → Prop} {i : Nat} {x : Str} {v : V} {u : Value} {Q : Unit → Shared → Prop} (I : Inv X pins σ H s) (hN : X.N.Nodup) (hi : X.N[i]? = some x) (hx : Loc X.env.scope x) (r : RelV v u)
    (h : ∀ s', Inv X pins (σ.set i (some v)) H s' → (∃ a, Heap.SameBut a s.heap s'.heap ∧ (a = X.env.locals ∨ X.env.cells.lookup x = some a)) → Q () s') (hf : X.fn x = true ∨ X.env.scope.names.lookup x = some .local := by first | exact .inl rfl | exact .inr rfl | assumption) : wpAny M A (storeName X.env x u) Q E s := by
  obtain ⟨m, hn, hl⟩ := id I.loc
  have hcls : (X.env.scope.kind == .class || (X.env.scope.kind == .module && X.env.locals != X.env.globals)) = false := by rw [I.ok.kind]; rfl
  have hiσ : i < σ.length := by rw [I.len]; exact (List.getElem?_eq_some_iff.mp hi).1
  have cne := I.cne
  have tracked : ∀ {a : Addr} {h' : Heap}, (∃ o, s.heap.get? a = some o ∧ H a = none) → Heap.SameBut a s.heap h' → HOk X.prog X.w H h' := fun {a h'} ha hs b ob e => by
    obtain ⟨_, _, hfree⟩ := ha
    refine (I.hok b ob e).stay (fun c w' hc q => (hs.2 c ?_).trans q) (fun _ q => q) fun _ _ q => q
    rintro rfl
    rcases hc with rfl | hc
    · rw [hfree] at e; cases e
    · rw [hfree] at hc; cases hc
  rcases hx with hk | hk
  · refine wpAny_storeName_local hk hn (fun h' hn' hs => ?_) hcls
    obtain ⟨oL, _, _, hoL, _⟩ := id hn
    refine h _ ⟨I.ok, I.os, I.bare, ⟨fun b o e n hb hx => ?_, fun b o e n hb hx => ?_, I.base.free, fun b o e hx => ?_, I.base.tups, I.base.frzs, I.base.tbls⟩, ⟨_, hn', fun j y v' e1 e2 e3 => ?_⟩, fun y c e => ?_, I.free, I.freeC, fun p hp => ?_, tracked ⟨oL, hoL, I.free⟩ hs, by simpa using I.len⟩ ⟨_, hs, .inl rfl⟩
    · exact (hs.2 b (Nat.ne_of_lt (Nat.lt_of_lt_of_le (Heap.lt_size e) I.ok.above))).trans (I.base.keep b o e n hb hx)
    · obtain ⟨sl, e1⟩ := I.base.slot b o e n hb hx
      exact ⟨sl, (hs.2 b (Nat.ne_of_lt (Nat.lt_of_lt_of_le (Heap.lt_size e) I.ok.above))).trans e1⟩
    · obtain ⟨o', e1⟩ := I.base.there b o e hx
      exact ⟨o', (hs.2 b (Nat.ne_of_lt (Nat.lt_of_lt_of_le (Heap.lt_size e) I.ok.above))).trans e1⟩
    · by_cases hj : j = i
      · subst hj
        rw [hi] at e1; cases e1
        rw [List.getElem?_set_self hiσ] at e2
        cases e2
        exact ⟨u, r, .inl ⟨hk, by simp⟩⟩
      · rw [List.getElem?_set_ne (Ne.symm hj)] at e2
        obtain ⟨u', r', q⟩ := hl j y v' e1 e2 e3
        refine ⟨u', r', ?_⟩
        rcases q with ⟨k, e⟩ | ⟨k, c, e, z⟩
        · refine .inl ⟨k, ?_⟩
          have : y ≠ x := fun e => hj (nodup_ix hN e1 (e ▸ hi))
          simp [this, e]
        · exact .inr ⟨k, c, e, z.sameBut hs (cne y c e)⟩
    · obtain ⟨w', z⟩ := I.cell y c e
      exact ⟨w', z.sameBut hs (cne y c e)⟩
    · obtain ⟨e, n, ne, nf, d⟩ := I.pin p hp
      exact ⟨(hs.2 p.1 ne).trans e, n, ne, nf, d⟩
  · have hfn : X.fn x = true := by
      rcases hf with z | z
      · exact z
      · rw [z] at hk; cases hk
    obtain ⟨c, hc⟩ := I.ok.has x (.inl hk)
    obtain ⟨w', z⟩ := I.cell x c hc
    refine wpAny_storeName_cell I.ok.kind hk hc z (fun h' hc' hs => ?_)
    obtain ⟨oc, hoc, hocd⟩ := id z
    refine h { s with heap := h' } ⟨I.ok, I.os, I.bare, ⟨fun b o e n hb hx => ?_, fun b o e n hb hx => ?_, I.base.free, fun b o e hx => ?_, I.base.tups, I.base.frzs, I.base.tbls⟩, ⟨m, hn.sameBut hs (Ne.symm (cne x c hc)), fun j y v' e1 e2 e3 => ?_⟩, fun y c' e => ?_, I.free, I.freeC, fun p hp => ?_, tracked ⟨oc, hoc, I.freeC x c hc⟩ hs, by simpa using I.len⟩ ⟨c, hs, .inr hc⟩
    · exact (hs.2 b (Nat.ne_of_lt (Nat.lt_of_lt_of_le (Heap.lt_size e) (I.ok.cab x c hfn hc)))).trans (I.base.keep b o e n hb hx)
    · obtain ⟨sl, e1⟩ := I.base.slot b o e n hb hx
      exact ⟨sl, (hs.2 b (Nat.ne_of_lt (Nat.lt_of_lt_of_le (Heap.lt_size e) (I.ok.cab x c hfn hc)))).trans e1⟩
    · obtain ⟨o', e1⟩ := I.base.there b o e hx
      exact ⟨o', (hs.2 b (Nat.ne_of_lt (Nat.lt_of_lt_of_le (Heap.lt_size e) (I.ok.cab x c hfn hc)))).trans e1⟩
    · by_cases hj : j = i
      · subst hj
        rw [hi] at e1; cases e1
        rw [List.getElem?_set_self hiσ] at e2
        cases e2
        exact ⟨u, r, .inr ⟨.inl hk, c, hc, hc'⟩⟩
      · rw [List.getElem?_set_ne (Ne.symm hj)] at e2
        obtain ⟨u', r', q⟩ := hl j y v' e1 e2 e3
        refine ⟨u', r', ?_⟩
        rcases q with q | ⟨k, c', e, z'⟩
        · exact .inl q
        · refine .inr ⟨k, c', e, z'.sameBut hs ?_⟩
          rintro rfl
          exact hj (nodup_ix hN e1 (I.ok.inj _ _ _ e hc ▸ hi))
    · by_cases hcc : c' = c
      · subst hcc; exact ⟨_, hc'⟩
      · obtain ⟨w2, z2⟩ := I.cell y c' e
        exact ⟨w2, z2.sameBut hs hcc⟩
    · obtain ⟨e, n, ne, nf, d⟩ := I.pin p hp
      refine ⟨(hs.2 p.1 ?_).trans e, n, ne, nf, d⟩
      intro q
      rw [q, hoc] at e
      have q' : oc = p.2 := Option.some.inj e
      exact d w' (by rw [← q']; exact hocd)
theorem store_ok {M : Model} {A : Around} {E : Value → Shared → Prop} {i : Nat} {x : Str} {v : V} {u : Value} {Q : Unit → Shared → Prop} (I : Inv X pins σ H s) (hN : X.N.Nodup) (hi : X.N[i]? = some x) (hx : Loc X.env.scope x) (r : RelV v u)
    (h : ∀ s', Inv X pins (σ.set i (some v)) H s' → Q () s') (hf : X.fn x = true ∨ X.env.scope.names.lookup x = some .local := by first | exact .inl rfl | exact .inr rfl | assumption) : wpAny M A (storeName X.env x u) Q E s :=
  store_ok2 I hN hi hx r (fun s' I' _ => h s' I') hf
/-- behind a call or a block, the state as it is -/
theorem Inv.call' {s' : Shared} {ch : List Addr} (I : Inv X pins σ H s) (ho : s'.os = s.os) (u : Un (frs X.stack) ch H H' s.heap s'.heap) (hok : HOk X.prog X.w H' s'.heap) (hg : AllBare s'.gens)
    (hch : ∀ b ∈ ch, (b ∈ X.ex ∨ X.s₀.heap.objs.size ≤ b) ∧ b ≠ X.env.locals ∧ (∀ x c, X.env.cells.lookup x = some c → c ≠ b) ∧ ∀ p ∈ X.pn ++ pins, p.1 ≠ b) : Inv X pins σ H' s' := by
  obtain ⟨h', g', d', t', o'⟩ := s'
  have e : o' = s.os := ho
  subst e
  exact I.call (g' := g') (t' := t') (d' := d') u hok hg hch
end

/-! ### the judgements -/
/-- an exception: its class, its own dict's address (where it has one), the abstract heap behind it -/
abbrev XK := Value → Option Addr → Hp → Prop
abbrev St := List (Option V)
abbrev VK := V → Hp → Prop
/-- an expression's reading; a test's; an argument list's -/
abbrev TE := St → Hp → VK → Prop
abbrev TT := St → Hp → (Bool → Hp → Prop) → Prop
abbrev TA := St → Hp → (List V → Hp → Prop) → Prop
/-- what is wanted behind a statement -/
structure Ends where
  nx : St → Hp → Prop
  rt : VK
  bk : St → Hp → Prop := fun _ _ => False
  ct : St → Hp → Prop := fun _ _ => False
abbrev TS := Ends → St → Hp → Prop

def EP (X : Cx) (pins : List (Addr × Obj)) (σ : St) (Q : VK) (u : Value) (s' : Shared) : Prop := ∃ v H', Inv X pins σ H' s' ∧ RelV v u ∧ Q v H'
def TP (X : Cx) (pins : List (Addr × Obj)) (σ : St) (Q : Bool → Hp → Prop) (b : Bool) (s' : Shared) : Prop := ∃ H', Inv X pins σ H' s' ∧ Q b H'
def AP (X : Cx) (pins : List (Addr × Obj)) (σ : St) (Q : List V → Hp → Prop) (us : List Value) (s' : Shared) : Prop := ∃ vs H', Inv X pins σ H' s' ∧ Vals vs us ∧ Q vs H'
def SP (X : Cx) (pins : List (Addr × Obj)) (D : Ends) (f : Flow) (s' : Shared) : Prop :=
  match f with
  | .next => ∃ σ' H', Inv X pins σ' H' s' ∧ D.nx σ' H'
  | .brk => ∃ σ' H', Inv X pins σ' H' s' ∧ D.bk σ' H'
  | .cont => ∃ σ' H', Inv X pins σ' H' s' ∧ D.ct σ' H'
  | .ret u => ∃ v σ' H', Inv X pins σ' H' s' ∧ RelV v u ∧ D.rt v H'

def PE (X : Cx) (e : Expr) (t : TE) : Prop :=
  ∀ (pins : List (Addr × Obj)) (s : Shared) (σ : St) (H : Hp) (Q : VK), Inv X pins σ H s → t σ H Q → wpAny (model X.prog X.w) X.A (eval e X.env) (EP X pins σ Q) X.xe s
def PT (X : Cx) (e : Expr) (t : TT) : Prop :=
  ∀ (pins : List (Addr × Obj)) (s : Shared) (σ : St) (H : Hp) (Q : Bool → Hp → Prop), Inv X pins σ H s → t σ H Q → wpAny (model X.prog X.w) X.A (isTrue e X.env (eval e X.env)) (TP X pins σ Q) X.xe s
/-- a test whatever its 'whole' is (and, or) -/
def PW (X : Cx) (e : Expr) (t : TT) : Prop :=
  ∀ (whole : Sem Value) (pins : List (Addr × Obj)) (s : Shared) (σ : St) (H : Hp) (Q : Bool → Hp → Prop), Inv X pins σ H s → t σ H Q → wpAny (model X.prog X.w) X.A (isTrue e X.env whole) (TP X pins σ Q) X.xe s
theorem PW.pt {X : Cx} {e : Expr} {t : TT} (h : PW X e t) : PT X e t := h _
/-- an argument list (no star), from the left -/
def PA (X : Cx) (es : List Expr) (t : TA) : Prop :=
  ∀ (pos : Pos) (pins : List (Addr × Obj)) (s : Shared) (σ : St) (H : Hp) (Q : List V → Hp → Prop), Inv X pins σ H s → t σ H Q → wpAny (model X.prog X.w) X.A (spliced (backTo pos (starEach es X.env))) (AP X pins σ Q) X.xe s
def PS (X : Cx) (st : Stmt) (t : TS) : Prop :=
  ∀ (pins : List (Addr × Obj)) (s : Shared) (σ : St) (H : Hp) (D : Ends), Inv X pins σ H s → t D σ H → wpAny (model X.prog X.w) X.A (exec st X.env) (SP X pins D) X.xe s
def PSs (X : Cx) (st : List Stmt) (t : TS) : Prop :=
  ∀ (pins : List (Addr × Obj)) (s : Shared) (σ : St) (H : Hp) (D : Ends), Inv X pins σ H s → t D σ H → wpAny (model X.prog X.w) X.A (execs st X.env) (SP X pins D) X.xe s
/-- weaken the end -/
theorem thn {α : Type} {t : Sem α} {Q Q' : α → Shared → Prop} {M : Model} {A : Around} {E : Value → Shared → Prop} {s : Shared} (h : wpAny M A t Q E s) (hQ : ∀ a s, Q a s → Q' a s) : wpAny M A t Q' E s := wpAny_mono h hQ fun _ _ x => x
end L2

namespace L2
open PySem PySem.Spec PyProof.Rows
section
variable {X : Cx}

/-- two expressions in a row -/
theorem bin {a b : Expr} {ta tb : TE} (ha : PE X a ta) (hb : PE X b tb) {pins : List (Addr × Obj)} {s : Shared} {σ : St} {H : Hp} {R : V → V → Hp → Prop} (I : Inv X pins σ H s) (h : ta σ H fun x H1 => tb σ H1 fun y H2 => R x y H2)
    {α : Type} {Q : α → Shared → Prop} {f : Value → Value → Sem α}
    (hf : ∀ v u s2 x y H2, Inv X pins σ H2 s2 → RelV x v → RelV y u → R x y H2 → wpAny (model X.prog X.w) X.A (f v u) Q X.xe s2) :
    wpAny (model X.prog X.w) X.A (eval a X.env) (fun v s₁ => wpAny (model X.prog X.w) X.A (eval b X.env) (fun u s₂ => wpAny (model X.prog X.w) X.A (f v u) Q X.xe s₂) X.xe s₁) X.xe s := by
  refine thn (ha pins s σ H _ I h) fun v s1 ⟨x, H1, I1, r1, q1⟩ => ?_
  refine thn (hb pins s1 σ H1 _ I1 q1) fun u s2 ⟨y, H2, I2, r2, q2⟩ => ?_
  exact hf v u s2 x y H2 I2 r1 r2 q2

/-! ### names and constants -/
def tVar (i : Nat) : TE := fun σ H Q => ∃ v, σ[i]? = some (some v) ∧ Q v H
def tC (v : V) : TE := fun _ H Q => Q v H
theorem pe_var {i : Nat} {x : Str} {pos : Pos} (hN : X.N[i]? = some x) (hv : Vis X.env.scope x) (hd : (x == ("__debug__" : Str)) = false := by decide) (hcd : (x == ("__classdict__" : Str)) = false := by decide) : PE X (.Name x pos) (tVar i) := by
  intro pins s σ H Q I h
  obtain ⟨v, e, h⟩ := h
  obtain ⟨m, hn, hl⟩ := I.loc
  obtain ⟨u, r, l⟩ := hl i x v hN e hv
  have fin : EP X pins σ Q u s := ⟨v, H, I, r, h⟩
  rcases l with ⟨hk, hm⟩ | ⟨hk, c, hc, hcell⟩
  · exact wpAny_Name (wpAny_loadName_local I.ok.kind hk hn hm fin) hd
  · rcases hk with hk | hk
    · exact wpAny_Name (wpAny_loadName_cell I.ok.kind hk hc hcell fin) hd
    · exact wpAny_Name (wpAny_loadName_free I.ok.kind hk hc hcell fin hcd) hd
theorem pe_int {i j pos} : PE X (.Constant (.int i) j pos) (tC (.int i)) := fun _ _ _ H _ I h => wpAny_Constant_int ⟨.int i, H, I.tok _, ⟨_, rfl⟩, h⟩
theorem pe_bl {b j pos} : PE X (.Constant (.bool b) j pos) (tC (.bl b)) := fun _ _ _ H _ I h => Constant_bool ⟨.bl b, H, I, rfl, h⟩
theorem pe_non {j pos} : PE X (.Constant .none j pos) (tC .non) := fun _ _ _ H _ I h => Constant_none ⟨.non, H, I, rfl, h⟩
theorem pe_str {x j pos} : PE X (.Constant (.str x) j pos) (tC (.str x)) := fun _ _ _ H _ I h => Calls.Constant_str ⟨.str x, H, I.tok _, ⟨_, rfl⟩, h⟩

/-- a global name of the def -/
def Gl (X : Cx) (x : Str) : Prop := X.env.kindOf x = some .globalImplicit
theorem ld_glob {E : Value → Shared → Prop} {pins : List (Addr × Obj)} {s : Shared} {σ : St} {H : Hp} {x : Str} {u : Value} {pos : Pos} {Q : Value → Shared → Prop} (I : Inv X pins σ H s) (hg : Gl X x) (hm : X.mg x = some u) (h : Q u s)
    (hd : (x == ("__debug__" : Str)) = false := by decide) : wpAny (model X.prog X.w) X.A (eval (.Name x pos) X.env) Q E s :=
  Calls.Name_function_global I.ok.kind hg (Calls.loadGlobal_global (by rw [I.ok.glob]; exact I.mod.glob.keeps I.bk) hm h) hd
theorem ld_blt {E : Value → Shared → Prop} {pins : List (Addr × Obj)} {s : Shared} {σ : St} {H : Hp} {x : Str} {u : Value} {pos : Pos} {Q : Value → Shared → Prop} (I : Inv X pins σ H s) (hg : Gl X x) (hm : X.mg x = none) (hv : bootBuiltins x = some u) (h : Q u s)
    (hn : x ≠ "__name__" := by decide) (hd : (x == ("__debug__" : Str)) = false := by decide) : wpAny (model X.prog X.w) X.A (eval (.Name x pos) X.env) Q E s := by
  obtain ⟨mb, h1, h2⟩ := I.mod.blt
  exact Calls.Name_function_global I.ok.kind hg (Calls.loadGlobal_builtin (by rw [I.ok.glob]; exact I.mod.glob.keeps I.bk) hm (by rw [I.ok.blt]; exact h1.keeps I.bk) ((h2 x hn).trans hv) h) hd
/-- a module's constant, a class, a function, as a value -/
theorem pe_glob {x : Str} {v : V} {u : Value} {pos : Pos} (hg : Gl X x) (hm : X.mg x = some u) (r : RelV v u) (hd : (x == ("__debug__" : Str)) = false := by decide) : PE X (.Name x pos) (tC v) :=
  fun _ _ _ H _ I h => ld_glob I hg hm ⟨v, H, I, r, h⟩ hd
theorem pe_bltn {x : Str} {v : V} {u : Value} {pos : Pos} (hg : Gl X x) (hm : X.mg x = none) (hv : bootBuiltins x = some u) (r : RelV v u) (hn : x ≠ "__name__" := by decide) (hd : (x == ("__debug__" : Str)) = false := by decide) : PE X (.Name x pos) (tC v) :=
  fun _ _ _ H _ I h => ld_blt I hg hm hv ⟨v, H, I, r, h⟩ hn hd

/-! ### arithmetic -/
/-- two ints -/
def t2I (ta tb : TE) (k : Int → Int → Hp → Prop) : St → Hp → Prop := fun σ H => ta σ H fun x H1 => tb σ H1 fun y H2 => ∃ i j, x = .int i ∧ y = .int j ∧ k i j H2
def tAdd (ta tb : TE) : TE := fun σ H Q => t2I ta tb (fun i j H2 => Q (.int (i + j)) H2) σ H
def tSub (ta tb : TE) : TE := fun σ H Q => t2I ta tb (fun i j H2 => Q (.int (i - j)) H2) σ H
/-- the left factor below 2^64 -/
def tMul (ta tb : TE) : TE := fun σ H Q => t2I ta tb (fun i j H2 => (-(2 ^ 64) < i ∧ i < 2 ^ 64) ∧ Q (.int (i * j)) H2) σ H
variable {a b : Expr} {ta tb : TE} {pos : Pos}
theorem pe_add (ha : PE X a ta) (hb : PE X b tb) : PE X (.BinOp a .Add b pos) (tAdd ta tb) := by
  intro pins s σ H Q I h
  refine wpAny_BinOp (bin ha hb I h fun v u s2 x y H2 I2 rx ry q => ?_)
  obtain ⟨i, j, rfl, rfl, q⟩ := q
  obtain ⟨t, rfl⟩ := rx
  obtain ⟨t', rfl⟩ := ry
  exact add_int ⟨.int _, H2, I2.tok _, ⟨_, rfl⟩, q⟩
theorem pe_sub (ha : PE X a ta) (hb : PE X b tb) : PE X (.BinOp a .Sub b pos) (tSub ta tb) := by
  intro pins s σ H Q I h
  refine wpAny_BinOp (bin ha hb I h fun v u s2 x y H2 I2 rx ry q => ?_)
  obtain ⟨i, j, rfl, rfl, q⟩ := q
  obtain ⟨t, rfl⟩ := rx
  obtain ⟨t', rfl⟩ := ry
  exact sub_int ⟨.int _, H2, I2.tok _, ⟨_, rfl⟩, q⟩
theorem pe_mul (ha : PE X a ta) (hb : PE X b tb) : PE X (.BinOp a .Mult b pos) (tMul ta tb) := by
  intro pins s σ H Q I h
  refine wpAny_BinOp (bin ha hb I h fun v u s2 x y H2 I2 rx ry q => ?_)
  obtain ⟨i, j, rfl, rfl, ⟨q1, q2⟩, q⟩ := q
  obtain ⟨t, rfl⟩ := rx
  obtain ⟨t', rfl⟩ := ry
  exact mul_int ⟨.int _, H2, I2.tok _, ⟨_, rfl⟩, q⟩ (.of_left (intBits_le_64 q1 q2))

/-! ### comparisons -/
def PC (X : Cx) (op : CmpOp) (a b : Expr) (t : TE) : Prop :=
  ∀ (pins : List (Addr × Obj)) (s : Shared) (σ : St) (H : Hp) (Q : VK), Inv X pins σ H s → t σ H Q →
    wpAny (model X.prog X.w) X.A (eval a X.env) (fun v s₁ => wpAny (model X.prog X.w) X.A (eval b X.env) (fun u s₂ => wpAny (model X.prog X.w) X.A (compareOp op v u) (EP X pins σ Q) X.xe s₂) X.xe s₁) X.xe s
theorem nobehind (b : Expr) {op : CmpOp} (h : op ≠ .In) (h2 : op ≠ .NotIn) : behindInMarks op b = false := by
  have e1 : (op == CmpOp.In) = false := by cases op <;> first | rfl | exact absurd rfl h
  have e2 : (op == CmpOp.NotIn) = false := by cases op <;> first | rfl | exact absurd rfl h2
  cases b <;> simp [behindInMarks, e1, e2]
def tCmp (p : Int → Int → Bool) (ta tb : TE) : TE := fun σ H Q => t2I ta tb (fun i j H2 => Q (.bl (p i j)) H2) σ H
abbrev tLt : TE → TE → TE := tCmp fun i j => decide (i < j)
abbrev tLe : TE → TE → TE := tCmp fun i j => decide (i ≤ j)
abbrev tGt : TE → TE → TE := tCmp fun i j => decide (j < i)
abbrev tGe : TE → TE → TE := tCmp fun i j => decide (j ≤ i)
abbrev tEqI : TE → TE → TE := tCmp fun i j => decide (i = j)
abbrev tNeI : TE → TE → TE := tCmp fun i j => !decide (i = j)
/-- a comparison of two ints, by its rule -/
theorem pc_int {op : CmpOp} {p : Int → Int → Bool} (ha : PE X a ta) (hb : PE X b tb)
    (rule : ∀ (i j : Int) (t u : Tok) (Q : Value → Shared → Prop) (s : Shared), Q (.bool (p i j)) s → wpAny (model X.prog X.w) X.A (compareOp op (.int i t) (.int j u)) Q X.xe s) : PC X op a b (tCmp p ta tb) := by
  intro pins s σ H Q I h
  refine bin ha hb I h fun v u s2 x y H2 I2 rx ry q => ?_
  obtain ⟨i, j, rfl, rfl, q⟩ := q
  obtain ⟨t, rfl⟩ := rx
  obtain ⟨t', rfl⟩ := ry
  exact rule i j t t' _ s2 ⟨.bl _, H2, I2, rfl, q⟩
theorem pc_lt (ha : PE X a ta) (hb : PE X b tb) : PC X .Lt a b (tLt ta tb) := pc_int ha hb fun _ _ _ _ _ _ h => lt_int h
theorem pc_le (ha : PE X a ta) (hb : PE X b tb) : PC X .LtE a b (tLe ta tb) := pc_int ha hb fun _ _ _ _ _ _ h => le_int h
theorem pc_gt (ha : PE X a ta) (hb : PE X b tb) : PC X .Gt a b (tGt ta tb) := pc_int ha hb fun _ _ _ _ _ _ h => gt_int h
theorem pc_ge (ha : PE X a ta) (hb : PE X b tb) : PC X .GtE a b (tGe ta tb) := pc_int ha hb fun _ _ _ _ _ _ h => ge_int h
theorem pc_eqI (ha : PE X a ta) (hb : PE X b tb) : PC X .Eq a b (tEqI ta tb) := pc_int ha hb fun _ _ _ _ _ _ h => eq_int (by rw [Bool.beq_eq_decide_eq]; exact h)
theorem pc_neI (ha : PE X a ta) (hb : PE X b tb) : PC X .NotEq a b (tNeI ta tb) := pc_int ha hb fun _ _ _ _ _ _ h => ne_int (by rw [bne, Bool.beq_eq_decide_eq]; exact h)
/-- is None -/
def tIsN (ta : TE) : TE := fun σ H Q => ta σ H fun x H1 => Q (.bl (decide (x = .non))) H1
def tNotN (ta : TE) : TE := fun σ H Q => ta σ H fun x H1 => Q (.bl (!decide (x = .non))) H1
theorem RelV.none_iff {x : V} {v : Value} (r : RelV x v) : (v == Value.none) = decide (x = .non) := by
  cases x with
  | non => cases r; rfl
  | bl _ => cases r; rfl
  | int _ => obtain ⟨t, rfl⟩ := r; rfl
  | str _ => obtain ⟨t, rfl⟩ := r; rfl
  | byt _ => obtain ⟨t, rfl⟩ := r; rfl
  | flt _ => obtain ⟨t, rfl⟩ := r; rfl
  | ref _ => cases r; rfl
  | ty _ => cases r; rfl
theorem pc_isN {j pos'} (ha : PE X a ta) : PC X .Is a (.Constant .none j pos') (tIsN ta) := by
  intro pins s σ H Q I h
  refine thn (ha pins s σ H _ I h) fun v s1 ⟨x, H1, I1, r1, q1⟩ => ?_
  exact Constant_none (is_none_gen ⟨.bl _, H1, I1, by rw [r1.none_iff]; rfl, q1⟩)
theorem pc_notN {j pos'} (ha : PE X a ta) : PC X .IsNot a (.Constant .none j pos') (tNotN ta) := by
  intro pins s σ H Q I h
  refine thn (ha pins s σ H _ I h) fun v s1 ⟨x, H1, I1, r1, q1⟩ => ?_
  exact Constant_none (isnot_none_gen ⟨.bl _, H1, I1, by rw [r1.none_iff]; rfl, q1⟩)
/-- a comparison as a value, as a test -/
def tB (t : TE) : TT := fun σ H Q => t σ H fun x H1 => ∃ c, x = .bl c ∧ Q c H1
theorem pe_cmp {op : CmpOp} {t : TE} (h : PC X op a b t) (h1 : behindInMarks op b = false := by first | exact nobehind _ (by decide) (by decide) | rfl) : PE X (.Compare a [op] [b] pos) t := fun pins s σ H Q I hw => wpAny_Compare1 (h pins s σ H Q I hw) h1
theorem pt_cmp {op : CmpOp} {t : TE} (h : PC X op a b t) (h1 : behindInMarks op b = false := by first | exact nobehind _ (by decide) (by decide) | rfl) : PT X (.Compare a [op] [b] pos) (tB t) := by
  intro pins s σ H Q I hw
  refine wpAny_isTrue_Compare1 (thn (h pins s σ H _ I hw) fun v s1 h1 => thn h1 fun u s2 h2 => thn h2 fun c s3 ⟨x, H1, I1, r1, q1⟩ => ?_) h1
  obtain ⟨d, rfl, q⟩ := q1
  cases r1
  exact wpAny_truthy_bool ⟨H1, I1, q⟩
/-- an expression whose value is a bool, as a test -/
theorem pt_val {e : Expr} {t : TE} (h : PE X e t) (he : ∀ whole, isTrue e X.env whole = (do let v ← whole; standAt e.pos; holding [v] (truthy v)) := by intro _; rfl) : PT X e (tB t) := by
  intro pins s σ H Q I hw
  refine isTrue_plain (thn (h pins s σ H _ I hw) fun v s1 ⟨x, H1, I1, r1, q1⟩ => ?_) (he _)
  obtain ⟨d, rfl, q⟩ := q1
  cases r1
  exact wpAny_truthy_bool ⟨H1, I1, q⟩

/-! ### and, or, not -/
variable {tA tB' : TT} {rest : List Expr}
def tAnd (t u : TT) : TT := fun σ H Q => t σ H fun c H1 => if c = true then u σ H1 Q else Q false H1
def tOr (t u : TT) : TT := fun σ H Q => t σ H fun c H1 => if c = true then Q true H1 else u σ H1 Q
def tNot (t : TT) : TT := fun σ H Q => t σ H fun c H1 => Q (!c) H1
theorem pw_and1 (ha : PT X a tA) : PW X (.BoolOp .And [a] pos) tA := by
  intro wh pins s σ H Q I h
  refine isTrue_and (thn (ha pins s σ H Q I h) fun c s1 e => ?_)
  cases c with
  | true => exact isTrue_and_nil e
  | false => exact e
theorem pw_or1 (ha : PT X a tA) : PW X (.BoolOp .Or [a] pos) tA := by
  intro wh pins s σ H Q I h
  refine isTrue_or (thn (ha pins s σ H Q I h) fun c s1 e => ?_)
  cases c with
  | false => exact isTrue_or_nil e
  | true => exact e
theorem pw_and (ha : PT X a tA) (hb : PW X (.BoolOp .And (b :: rest) pos) tB') : PW X (.BoolOp .And (a :: b :: rest) pos) (tAnd tA tB') := by
  intro wh pins s σ H Q I h
  refine isTrue_and (thn (ha pins s σ H _ I h) fun c s1 ⟨H1, I1, q1⟩ => ?_)
  cases c with
  | true => exact hb wh pins s1 σ H1 Q I1 q1
  | false => exact ⟨H1, I1, q1⟩
theorem pw_or (ha : PT X a tA) (hb : PW X (.BoolOp .Or (b :: rest) pos) tB') : PW X (.BoolOp .Or (a :: b :: rest) pos) (tOr tA tB') := by
  intro wh pins s σ H Q I h
  refine isTrue_or (thn (ha pins s σ H _ I h) fun c s1 ⟨H1, I1, q1⟩ => ?_)
  cases c with
  | true => exact ⟨H1, I1, q1⟩
  | false => exact hb wh pins s1 σ H1 Q I1 q1
theorem pt_not (ha : PT X a tA) : PT X (.UnaryOp .Not a pos) (tNot tA) := by
  intro pins s σ H Q I h
  exact isTrue_not (ha pins s σ H (fun c H1 => Q (!c) H1) I h)
/-- .. as values (bools) -/
def tAndV (ta tb : TE) : TE := fun σ H Q => ta σ H fun x H1 => ∃ c, x = .bl c ∧ if c = true then tb σ H1 Q else Q (.bl false) H1
def tOrV (ta tb : TE) : TE := fun σ H Q => ta σ H fun x H1 => ∃ c, x = .bl c ∧ if c = true then Q (.bl true) H1 else tb σ H1 Q
def tNotV (ta : TE) : TE := fun σ H Q => ta σ H fun x H1 => ∃ c, x = .bl c ∧ Q (.bl (!c)) H1
theorem pe_one {op} {t : TE} (h : PE X a t) : PE X (.BoolOp op [a] pos) t := fun pins s σ H Q I hw => BoolOp_one (h pins s σ H Q I hw)
theorem pe_and (ha : PE X a ta) (hb : PE X (.BoolOp .And (b :: rest) pos) tb) : PE X (.BoolOp .And (a :: b :: rest) pos) (tAndV ta tb) := by
  intro pins s σ H Q I h
  refine BoolOp_and (thn (ha pins s σ H _ I h) fun v s1 ⟨x, H1, I1, r1, q1⟩ => ?_)
  obtain ⟨c, rfl, q1⟩ := q1
  cases r1
  refine wpAny_truthy_bool ?_
  cases c with
  | true => exact hb pins s1 σ H1 Q I1 q1
  | false => exact ⟨.bl false, H1, I1, rfl, q1⟩
theorem pe_or (ha : PE X a ta) (hb : PE X (.BoolOp .Or (b :: rest) pos) tb) : PE X (.BoolOp .Or (a :: b :: rest) pos) (tOrV ta tb) := by
  intro pins s σ H Q I h
  refine BoolOp_or (thn (ha pins s σ H _ I h) fun v s1 ⟨x, H1, I1, r1, q1⟩ => ?_)
  obtain ⟨c, rfl, q1⟩ := q1
  cases r1
  refine wpAny_truthy_bool ?_
  cases c with
  | false => exact hb pins s1 σ H1 Q I1 q1
  | true => exact ⟨.bl true, H1, I1, rfl, q1⟩
theorem pe_not (ha : PE X a ta) : PE X (.UnaryOp .Not a pos) (tNotV ta) := by
  intro pins s σ H Q I h
  refine UnaryOp_ (thn (ha pins s σ H _ I h) fun v s1 ⟨x, H1, I1, r1, q1⟩ => ?_)
  obtain ⟨c, rfl, q1⟩ := q1
  cases r1
  exact not_of (wpAny_truthy_bool ⟨.bl (!c), H1, I1, rfl, q1⟩)
/-- a if t else b -/
def tIf (t : TT) (ta tb : TE) : TE := fun σ H Q => t σ H fun c H1 => if c = true then ta σ H1 Q else tb σ H1 Q
theorem pe_ifExp {c : Expr} (hc : PT X c tA) (ha : PE X a ta) (hb : PE X b tb) : PE X (.IfExp c a b pos) (tIf tA ta tb) := by
  intro pins s σ H Q I h
  refine wpAny_IfExp (thn (hc pins s σ H _ I h) fun d s1 ⟨H1, I1, q1⟩ => ?_)
  cases d with
  | true => exact ha pins s1 σ H1 Q I1 q1
  | false => exact hb pins s1 σ H1 Q I1 q1
end
end L2

namespace L2
open PySem PySem.Spec PyProof.Rows

/-! ### a list, a tuple that is read: tracked, frozen, or an object of the module -/
def SqL (K : PySem.W.Frag) (H : Hp) (a : Addr) (xs : List V) : Prop :=
  Rd H a (.lst xs) ∨
    ∃ (o : Obj) (its : Array Value) (n : Nat), K.lookup a = some o ∧ o.cls = .type "list" ∧ o.dict = none ∧ o.data = .seq its n ∧ its.size ≤ sizeLine ∧ Vals xs its.toList
def SqT (K : PySem.W.Frag) (H : Hp) (a : Addr) (xs : List V) : Prop :=
  Rd H a (.tup xs) ∨
    ∃ (o : Obj) (its : Array Value) (n : Nat), K.lookup a = some o ∧ o.cls = .type "tuple" ∧ o.data = .seq its n ∧ its.size ≤ sizeLine ∧ Vals xs its.toList
def absV : Value → Option V
  | .none => some .non
  | .bool b => some (.bl b)
  | .int i _ => some (.int i)
  | .str x _ => some (.str x)
  | .bytes b _ => some (.byt b)
  | .float b _ => some (.flt b)
  | .ref a => some (.ref a)
  | .type n => some (.ty n)
  | _ => none
theorem RelV.abs {x : V} {u : Value} (r : RelV x u) : absV u = some x := by
  cases x with
  | non => cases r; rfl
  | bl _ => cases r; rfl
  | int _ => obtain ⟨t, rfl⟩ := r; rfl
  | str _ => obtain ⟨t, rfl⟩ := r; rfl
  | byt _ => obtain ⟨t, rfl⟩ := r; rfl
  | flt _ => obtain ⟨t, rfl⟩ := r; rfl
  | ref _ => cases r; rfl
  | ty _ => cases r; rfl
theorem RelV.inj {x y : V} {u : Value} (r : RelV x u) (q : RelV y u) : x = y := Option.some.inj (r.abs.symm.trans q.abs)
theorem Vals.inj : ∀ {xs ys : List V} {us : List Value}, Vals xs us → Vals ys us → xs = ys
  | _, _, _, .nil, .nil => rfl
  | _, _, _, .cons r t, .cons r' t' => by rw [r.inj r', Vals.inj t t']
section
variable {X : Cx} {pins : List (Addr × Obj)} {σ : St} {H : Hp} {s : Shared} {a : Addr} {xs ys : List V}
theorem SqL.of {K : PySem.W.Frag} (h : H a = some (.lst xs)) : SqL K H a xs := .inl (.inl h)
theorem SqT.of {K : PySem.W.Frag} (h : H a = some (.tup xs)) : SqT K H a xs := .inl (.inl h)
theorem Inv.list (I : Inv X pins σ H s) (h : SqL X.K H a xs) : ∃ its : List Value, Vals xs its ∧ PlainL s.heap a its.toArray ∧ xs.length ≤ sizeLine := by
  rcases h with h | ⟨o, its, n, hk, hc, hd, hs, hz, r⟩
  · obtain ⟨z, its, n, r, e⟩ := h.ok I.hok
    exact ⟨its, r, ⟨_, n, e, rfl, rfl, rfl⟩, z⟩
  · refine ⟨its.toList, r, ⟨o, n, I.kIn a o hk, hc, hd, by simpa using hs⟩, ?_⟩
    have e := r.length
    simp only [Array.length_toList] at e
    omega
theorem Inv.tuple (I : Inv X pins σ H s) (h : SqT X.K H a xs) : ∃ its : List Value, Vals xs its ∧ IsTup s.heap a its.toArray ∧ xs.length ≤ sizeLine := by
  rcases h with h | ⟨o, its, n, hk, hc, hs, hz, r⟩
  · obtain ⟨z, its, r, p⟩ := h.ok I.hok
    exact ⟨its, r, p, z⟩
  · refine ⟨its.toList, r, ⟨o, I.kIn a o hk, hc, n, by simpa using hs⟩, ?_⟩
    have e := r.length
    simp only [Array.length_toList] at e
    omega
theorem Inv.list_inj (I : Inv X pins σ H s) (h : SqL X.K H a xs) (h' : SqL X.K H a ys) : xs = ys := by
  obtain ⟨its, r, ⟨o, n, e, _, _, d⟩, _⟩ := I.list h
  obtain ⟨its', r', ⟨o', n', e', _, _, d'⟩, _⟩ := I.list h'
  rw [e] at e'; cases e'
  rw [d] at d'
  injection d' with d1 _
  have : its = its' := by simpa using congrArg Array.toList d1
  subst this
  exact r.inj r'
theorem Inv.tuple_inj (I : Inv X pins σ H s) (h : SqT X.K H a xs) (h' : SqT X.K H a ys) : xs = ys := by
  obtain ⟨its, r, ⟨o, e, _, n, d⟩, _⟩ := I.tuple h
  obtain ⟨its', r', ⟨o', e', _, n', d'⟩, _⟩ := I.tuple h'
  rw [e] at e'; cases e'
  rw [d] at d'
  injection d' with d1 _
  have : its = its' := by simpa using congrArg Array.toList d1
  subst this
  exact r.inj r'
end

/-! ### another wish about exceptions -/
abbrev Cx.wish (X : Cx) (E : Value → Shared → Prop) : Cx := { X with xe := E }
/-- no exception leaves -/
abbrev Cx.nox (X : Cx) : Cx := X.wish fun _ _ => False
theorem Cx.Ok.wish {X : Cx} (ok : X.Ok) (E : Value → Shared → Prop) : (X.wish E).Ok :=
  ⟨ok.mod, ok.kind, ok.glob, ok.blt, ok.above, ok.inj, ok.has, ok.cab, ok.hd, ok.frames, ok.stk, ok.exf, ok.bs, ok.bsz, ok.noex, ok.exfs, ok.funs, ok.frf⟩
theorem Cx.Ok.unwish {X : Cx} {E : Value → Shared → Prop} (ok : (X.wish E).Ok) : X.Ok :=
  ⟨ok.mod, ok.kind, ok.glob, ok.blt, ok.above, ok.inj, ok.has, ok.cab, ok.hd, ok.frames, ok.stk, ok.exf, ok.bs, ok.bsz, ok.noex, ok.exfs, ok.funs, ok.frf⟩
section
variable {X : Cx} {pins : List (Addr × Obj)} {σ : St} {H : Hp} {s : Shared} {E : Value → Shared → Prop}
theorem Inv.wish (I : Inv X pins σ H s) (E : Value → Shared → Prop) : Inv (X.wish E) pins σ H s := ⟨I.ok.wish E, I.os, I.bare, I.base, I.loc, I.cell, I.free, I.freeC, I.pin, I.hok, I.len⟩
theorem Inv.unwish (I : Inv (X.wish E) pins σ H s) : Inv X pins σ H s := ⟨I.ok.unwish, I.os, I.bare, I.base, I.loc, I.cell, I.free, I.freeC, I.pin, I.hok, I.len⟩
theorem SP.unwish {D : Ends} {f : Flow} {s' : Shared} (h : SP (X.wish E) pins D f s') : SP X pins D f s' := by
  cases f with
  | next => obtain ⟨σ', H', I, q⟩ := h; exact ⟨σ', H', I.unwish, q⟩
  | brk => obtain ⟨σ', H', I, q⟩ := h; exact ⟨σ', H', I.unwish, q⟩
  | cont => obtain ⟨σ', H', I, q⟩ := h; exact ⟨σ', H', I.unwish, q⟩
  | ret u => obtain ⟨v, σ', H', I, r, q⟩ := h; exact ⟨v, σ', H', I.unwish, r, q⟩
theorem PE.nox {e : Expr} {t : TE} (h : PE X.nox e t) : PE X e t := fun pins s σ H Q I hw =>
  wpAny_mono (h pins s σ H Q (I.wish _) hw) (fun _ _ ⟨v, H', I', r, q⟩ => ⟨v, H', I'.unwish, r, q⟩) fun _ _ z => False.elim z
theorem PT.nox {e : Expr} {t : TT} (h : PT X.nox e t) : PT X e t := fun pins s σ H Q I hw =>
  wpAny_mono (h pins s σ H Q (I.wish _) hw) (fun _ _ ⟨H', I', q⟩ => ⟨H', I'.unwish, q⟩) fun _ _ z => False.elim z
theorem PSs.nox {st : List Stmt} {t : TS} (h : PSs X.nox st t) : PSs X st t := fun pins s σ H D I hw =>
  wpAny_mono (h pins s σ H D (I.wish _) hw) (fun _ _ q => q.unwish) fun _ _ z => False.elim z
end

/-! ### blocks and small statements -/
section
variable {X : Cx} {st : Stmt} {rest : List Stmt} {t u : TS} {e : Expr} {te : TE} {pos : Pos}
def tNext : TS := fun D σ H => D.nx σ H
def tSeq (t u : TS) : TS := fun D σ H => t { D with nx := u D } σ H
theorem pss_nil : PSs X [] tNext := fun _ _ σ H _ I h => wpAny_execs_nil ⟨σ, H, I, h⟩
theorem pss_cons (h1 : PS X st t) (h2 : PSs X rest u) : PSs X (st :: rest) (tSeq t u) := by
  intro pins s σ H D I h
  refine wpAny_execs_cons (thn (h1 pins s σ H { D with nx := u D } I h) fun f s1 q => ?_)
  cases f with
  | next =>
    obtain ⟨σ', H', I', q⟩ := q
    exact h2 pins s1 σ' H' D I' q
  | ret v => exact q
  | brk => exact q
  | cont => exact q
theorem pss_one (h1 : PS X st t) : PSs X [st] t := by
  intro pins s σ H D I h
  refine wpAny_execs_cons (thn (h1 pins s σ H D I h) fun f s1 q => ?_)
  cases f with
  | next => exact wpAny_execs_nil q
  | ret v => exact q
  | brk => exact q
  | cont => exact q
def tBreak : TS := fun D σ H => D.bk σ H
def tCont : TS := fun D σ H => D.ct σ H
theorem ps_pass : PS X (.Pass pos) tNext := fun _ _ σ H _ I h => wpAny_Pass ⟨σ, H, I, h⟩
theorem ps_break : PS X (.Break pos) tBreak := fun _ _ σ H _ I h => wpAny_Break ⟨σ, H, I, h⟩
theorem ps_continue : PS X (.Continue pos) tCont := fun _ _ σ H _ I h => wpAny_Continue ⟨σ, H, I, h⟩
/-- in a def's body nothing is shown -/
theorem Inv.quiet {pins : List (Addr × Obj)} {σ : St} {H : Hp} {s : Shared} (I : Inv X pins σ H s) : interactive X.env = false := by simp [interactive, I.ok.kind]
/-- a docstring -/
theorem ps_doc {x j pos pos'} : PS X (.Expr (.Constant (.str x) j pos) pos') tNext := fun _ s σ H _ I h => wpAny_Expr (Calls.Constant_str (show SP X _ _ .next { s with toks := s.toks + 1 } from ⟨σ, H, I.tok _, h⟩)) I.quiet
/-- an expression whose value is dropped -/
def tDrop (te : TE) : TS := fun D σ H => te σ H fun _ H1 => D.nx σ H1
theorem ps_expr (he : PE X e te) (hs : swapsWith e none pos.line X.env = pure false := by rfl) : PS X (.Expr e pos) (tDrop te) := by
  intro pins s σ H D I h
  exact wpAny_Expr_any (thn (he pins s σ H _ I h) fun v s1 ⟨x, H1, I1, r1, q1⟩ => ⟨σ, H1, I1, q1⟩) I.quiet hs
def tRet (te : TE) : TS := fun D σ H => te σ H D.rt
theorem ps_ret (he : PE X e te) : PS X (.Return (some e) pos) (tRet te) := by
  intro pins s σ H D I h
  exact wpAny_Return_some (thn (he pins s σ H _ I h) fun v s1 ⟨x, H1, I1, r1, q1⟩ => ⟨x, σ, H1, I1, r1, q1⟩)
def tRetN : TS := fun D _ H => D.rt .non H
theorem ps_retN : PS X (.Return none pos) tRetN := fun _ _ σ H _ I h => wpAny_Return_none ⟨.non, σ, H, I, rfl, h⟩
def tIfS (c : TT) (t u : TS) : TS := fun D σ H => c σ H fun b H1 => if b = true then t D σ H1 else u D σ H1
theorem ps_if {c : Expr} {a b : List Stmt} {tc : TT} (hc : PT X c tc) (ha : PSs X a t) (hb : PSs X b u) : PS X (.If c a b pos) (tIfS tc t u) := by
  intro pins s σ H D I h
  refine wpAny_If (thn (hc pins s σ H _ I h) fun d s1 ⟨H1, I1, q1⟩ => ?_)
  cases d with
  | true => exact ha pins s1 σ H1 D I1 q1
  | false => exact hb pins s1 σ H1 D I1 q1
/-- code that the proof never comes to -/
def tNever : TS := fun _ _ _ => False
theorem ps_never : PS X st tNever := fun _ _ _ _ _ _ h => h.elim
theorem pss_never {sts : List Stmt} : PSs X sts tNever := fun _ _ _ _ _ _ h => h.elim
end

/-! ### targets -/
abbrev TG := V → St → Hp → (St → Hp → Prop) → Prop
abbrev TGs := List V → St → Hp → (St → Hp → Prop) → Prop
def PG (X : Cx) (target : Expr) (t : TG) : Prop :=
  ∀ (pins : List (Addr × Obj)) (s : Shared) (σ : St) (H : Hp) (v : V) (u : Value) (Q : St → Hp → Prop), Inv X pins σ H s → RelV v u → t v σ H Q →
    wpAny (model X.prog X.w) X.A (assign target X.env u) (fun _ s' => ∃ σ' H', Inv X pins σ' H' s' ∧ Q σ' H') X.xe s
/-- several targets, one after another -/
def PGs (X : Cx) (ts : List Expr) (t : TGs) : Prop :=
  ∀ (pins : List (Addr × Obj)) (s : Shared) (σ : St) (H : Hp) (vs : List V) (us : List Value) (Q : St → Hp → Prop), Inv X pins σ H s → Vals vs us → t vs σ H Q →
    wpAny (model X.prog X.w) X.A (assignInOrder ((assignEach ts X.env).map (·.2)) us) (fun _ s' => ∃ σ' H', Inv X pins σ' H' s' ∧ Q σ' H') X.xe s
/-- o[i] = v, by values -/
abbrev TSet := V → V → V → Hp → (Hp → Prop) → Prop
def PSet (X : Cx) (t : TSet) : Prop :=
  ∀ (pins : List (Addr × Obj)) (s : Shared) (σ : St) (H : Hp) (o i v : V) (ov iv u : Value) (Q : Hp → Prop), Inv X pins σ H s → RelV o ov → RelV i iv → RelV v u → t o i v H Q →
    wpAny (model X.prog X.w) X.A (setItem ov iv u) (fun _ s' => ∃ H', Inv X pins σ H' s' ∧ Q H') X.xe s
/-- a op= b, by values -/
abbrev TIp := V → V → Hp → VK → Prop
def PIp (X : Cx) (op : Operator) (t : TIp) : Prop :=
  ∀ (pins : List (Addr × Obj)) (s : Shared) (σ : St) (H : Hp) (x y : V) (v u : Value) (Q : VK), Inv X pins σ H s → RelV x v → RelV y u → t x y H Q →
    wpAny (model X.prog X.w) X.A (inplaceOp op v u) (EP X pins σ Q) X.xe s
section
variable {X : Cx} {pos : Pos}
def gName (i : Nat) : TG := fun v σ H Q => Q (σ.set i (some v)) H
theorem pg_name {i : Nat} {x : Str} (hN : X.N.Nodup) (hi : X.N[i]? = some x) (hx : Loc X.env.scope x) (hf : X.fn x = true ∨ X.env.scope.names.lookup x = some .local := by first | exact .inl rfl | exact .inr rfl | assumption) : PG X (.Name x pos) (gName i) := by
  intro pins s σ H v u Q I r h
  exact wpAny_assign_Name (store_ok I hN hi hx r (fun s' I' => ⟨_, H, I', h⟩) hf)
def gNil : TGs := fun vs σ H Q => vs = [] ∧ Q σ H
def gCons (t : TG) (u : TGs) : TGs := fun vs σ H Q => ∃ v r, vs = v :: r ∧ t v σ H fun σ' H' => u r σ' H' Q
theorem pgs_nil : PGs X [] gNil := by
  intro pins s σ H vs us Q I r h
  obtain ⟨e, h⟩ := h
  subst e
  cases r
  exact assignInOrder_nil ⟨σ, H, I, h⟩
theorem pgs_cons {e : Expr} {es : List Expr} {t : TG} {u : TGs} (h1 : PG X e t) (h2 : PGs X es u)
    (hs : (assignEach (e :: es) X.env).map (·.2) = assign e X.env :: (assignEach es X.env).map (·.2) := by rfl) : PGs X (e :: es) (gCons t u) := by
  intro pins s σ H vs us Q I r h
  obtain ⟨v, vr, e1, h⟩ := h
  subst e1
  cases r with
  | cons r rr =>
    rw [hs]
    refine assignInOrder_cons (thn (h1 pins s σ H _ _ _ I r h) fun _ s1 ⟨σ1, H1, I1, q1⟩ => ?_)
    exact h2 pins s1 σ1 H1 _ _ Q I1 rr q1
/-- (a, b, ..) = a tuple of that length -/
def gTup (K : PySem.W.Frag) (n : Nat) (t : TGs) : TG := fun v σ H Q => ∃ a xs, v = .ref a ∧ SqT K H a xs ∧ xs.length = n ∧ t xs σ H Q
theorem pg_tup {es : List Expr} {k : Nat} {t : TGs} {n : Nat} (hc : X.calm = true) (h : PGs X es t)
    (hn : (assignEach es X.env).length = n := by rfl) (hst : (assignEach es X.env).findIdx? (·.1) = none := by rfl) : PG X (.Tuple es k pos) (gTup X.K n t) := by
  intro pins s σ H v u Q I r hw
  obtain ⟨a, xs, e1, hq, hl, hw⟩ := hw
  subst e1
  cases r
  obtain ⟨its, rv, ht, hz⟩ := I.tuple hq
  refine assign_Tuple_tuple (I.ok.hd hc) ht (by simp [hn, ← hl, rv.length]) hst fun h' hx => ?_
  have I1 : Inv X pins σ H { s with heap := h' } := I.kept (t' := s.toks) fun b o e => hx b o (Nat.ne_of_lt (Heap.lt_size e)) e
  exact h pins _ σ H xs _ Q I1 (by simpa using rv) hw
/-- o[i] = .. -/
def gSub (to ti : TE) (t : TSet) : TG := fun v σ H Q => to σ H fun o H1 => ti σ H1 fun i H2 => t o i v H2 fun H3 => Q σ H3
theorem pg_sub {o i : Expr} {to ti : TE} {t : TSet} (ho : PE X o to) (hi : PE X i ti) (hs : PSet X t)
    (ha : ∀ v, assign (.Subscript o i pos) X.env v = (do
      let ov ← holding [v] (eval o X.env)
      let iv ← holding [v, ov] (eval i X.env)
      standAt pos
      holding [v, ov, iv] (setItem ov iv v)
      release [v, ov, iv] []) := by intro _; rfl) : PG X (.Subscript o i pos) (gSub to ti t) := by
  intro pins s σ H v u Q I r h
  rw [ha]
  refine wpAny_bind (wpAny_holding (thn (ho pins s σ H _ I h) fun ov s1 ⟨x, H1, I1, r1, q1⟩ => ?_))
  refine wpAny_bind (wpAny_holding (thn (hi pins s1 σ H1 _ I1 q1) fun iv s2 ⟨y, H2, I2, r2, q2⟩ => ?_))
  refine wpAny_bind (wpAny_standAt (wpAny_bind (wpAny_holding (thn (hs pins s2 σ H2 x y v ov iv u _ I2 r1 r2 r q2) fun _ s3 ⟨H3, I3, q3⟩ => ?_))))
  exact wpAny_release ⟨σ, H3, I3, q3⟩
/-- target = value -/
def tAsg (te : TE) (g : TG) : TS := fun D σ H => te σ H fun x H1 => g x σ H1 D.nx
theorem ps_asg {tg e : Expr} {te : TE} {g : TG} (he : PE X e te) (hg : PG X tg g) (hs : swapsWithSole [tg] e pos.line X.env = pure false := by rfl) (hw : swappedStores [tg] e X.env = pure none := by rfl)
    (h1 : (assignEach [tg] X.env).map (·.2) = [assign tg X.env] := by rfl) : PS X (.Assign [tg] e pos) (tAsg te g) := by
  intro pins s σ H D I h
  refine wpAny_Assign_stores (thn (he pins s σ H _ I h) fun v s1 ⟨x, H1, I1, r1, q1⟩ => ?_) hs hw
  rw [h1]
  exact thn (hg pins s1 σ H1 x v _ I1 r1 q1) fun _ s2 q => q
/-- name = value -/
theorem ps_set {i : Nat} {x : Str} {e : Expr} {te : TE} {pos' : Pos} (hN : X.N.Nodup) (hi : X.N[i]? = some x) (hx : Loc X.env.scope x) (he : PE X e te) (hs : swapsWith e (some (.Name x pos')) pos.line X.env = pure false := by rfl) (hf : X.fn x = true ∨ X.env.scope.names.lookup x = some .local := by first | exact .inl rfl | exact .inr rfl | assumption) :
    PS X (.Assign [.Name x pos'] e pos) (tAsg te (gName i)) := by
  intro pins s σ H D I h
  refine wpAny_Assign_Name (thn (he pins s σ H _ I h) fun v s1 ⟨y, H1, I1, r1, q1⟩ => ?_) hs
  exact store_ok I1 hN hi hx r1 (fun s2 I2 => ⟨_, H1, I2, q1⟩) hf
/-- a, b = x, y with plain local names: stored from the right; the pair itself is not tracked (the opening rows as in PyProof/Rows/TupAssign.lean:23) -/
def tPar (i j : Nat) (ta : TA) : TS := fun D σ H => ta σ H fun vs H1 => ∃ v w, vs = [v, w] ∧ D.nx ((σ.set i (some v)).set j (some w)) H1
theorem ps_par {i j : Nat} {x y : Str} {a b : Expr} {ta : TA} {px py pt : Pos} {kt k2 pt2} (hc : X.calm = true) (hN : X.N.Nodup) (hi : X.N[i]? = some x) (hj : X.N[j]? = some y) (hij : i ≠ j)
    (hx : X.env.scope.names.lookup x = some .local) (hy : X.env.scope.names.lookup y = some .local) (ha : PA X [a, b] ta)
    (hw : swappedStores [.Tuple [.Name x px, .Name y py] kt pt] (.Tuple [a, b] k2 pt2) X.env = pure (some [x, y]))
    (hs : swapsWithSole [.Tuple [.Name x px, .Name y py] kt pt] (.Tuple [a, b] k2 pt2) pos.line X.env = pure false := by rfl) :
    PS X (.Assign [.Tuple [.Name x px, .Name y py] kt pt] (.Tuple [a, b] k2 pt2) pos) (tPar i j ta) := by
  intro pins s σ H D I h
  rw [exec_Assign_arm]
  refine wpAny_bind (wpAny_standAt ?_)
  rw [hs]
  refine wpAny_bind (wpAny_pure ?_)
  rw [if_neg (by decide)]
  refine wpAny_bind (Tuple_ (thn (ha _ pins s σ H _ I h) fun us s1 ⟨vs, H1, I1, r1, q1⟩ => ?_))
  obtain ⟨v, w, e1, q1⟩ := q1
  subst e1
  obtain ⟨u1, u2, rfl, rv, rw'⟩ : ∃ u1 u2, us = [u1, u2] ∧ RelV v u1 ∧ RelV w u2 := by
    cases r1 with
    | cons p q =>
      cases q with
      | cons p' q' =>
        cases q'
        exact ⟨_, _, rfl, p, p'⟩
  refine wpAny_newObj_type ?_ (by show 2 ≤ sizeLine; decide)
  have I2 : Inv X pins σ H1 { s1 with heap := s1.heap.push { cls := .type "tuple", data := .seq [u1, u2].toArray } } := I1.kept (t' := s1.toks) fun b o e => Heap.get?_push_of_some _ e
  rw [hw]
  refine wpAny_bind (wpAny_pure ?_)
  show wpAny (model X.prog X.w) X.A (do rule "assign.swapped-stores"; let items ← unpackItems (.ref s1.heap.objs.size) 2 none; assignInOrder [fun v => bindName X.env y v, fun v => bindName X.env x v] items.reverse; pure Flow.next) _ _ _
  refine wpAny_bind (wpAny_rule (wpAny_bind (unpackItems_tuple (items := #[u1, u2]) (I.ok.hd hc) (IsTup.new s1.heap _) fun h' hx' => ?_)))
  have I3 := I2.kept (h' := h') (t' := s1.toks) fun b o e => hx' b o (Nat.ne_of_lt (Heap.lt_size e)) e
  show wpAny _ _ (assignInOrder [fun v => bindName X.env y v, fun v => bindName X.env x v] [u2, u1] >>= fun _ => pure Flow.next) _ _ _
  refine wpAny_bind (assignInOrder_cons (wpAny_bindName (store_ok I3 hN hj (.inl hy) rw' (fun s2 I4 => ?_) (.inr hy))))
  refine assignInOrder_cons (wpAny_bindName (store_ok I4 hN hi (.inl hx) rv (fun s3 I5 => assignInOrder_nil (wpAny_pure ?_)) (.inr hx)))
  rw [List.set_comm _ _ (Ne.symm hij)] at I5
  exact ⟨_, H1, I5, q1⟩
/-- name op= e -/
def tAug (i : Nat) (te : TE) (ti : TIp) : TS := fun D σ H => ∃ x, σ[i]? = some (some x) ∧ te σ H fun y H1 => ti x y H1 fun z H2 => D.nx (σ.set i (some z)) H2
theorem ps_aug {i : Nat} {x : Str} {e : Expr} {te : TE} {op : Operator} {ti : TIp} {pos' : Pos} (hN : X.N.Nodup) (hi : X.N[i]? = some x) (hx : Loc X.env.scope x) (he : PE X e te) (ho : PIp X op ti) (hf : X.fn x = true ∨ X.env.scope.names.lookup x = some .local := by first | exact .inl rfl | exact .inr rfl | assumption) :
    PS X (.AugAssign (.Name x pos') op e pos) (tAug i te ti) := by
  intro pins s σ H D I h
  obtain ⟨v, e1, h⟩ := h
  obtain ⟨m, hn, hl⟩ := I.loc
  have vis : Vis X.env.scope x := by rcases hx with k | k; exact .inl k; exact .inr (.inl k)
  obtain ⟨u, r, l⟩ := hl i x v hi e1 vis
  refine wpAny_AugAssign_Name ?_
  have go : wpAny (model X.prog X.w) X.A (eval e X.env) (fun w s₂ => wpAny (model X.prog X.w) X.A (inplaceOp op u w) (fun r s₃ => wpAny (model X.prog X.w) X.A (storeName X.env x r) (fun _ => SP X pins D .next) X.xe s₃) X.xe s₂) X.xe s := by
    refine thn (he pins s σ H _ I h) fun w s1 ⟨y, H1, I1, r1, q1⟩ => ?_
    refine thn (ho pins s1 σ H1 v y u w _ I1 r r1 q1) fun z s2 ⟨zv, H2, I2, r2, q2⟩ => ?_
    exact store_ok I2 hN hi hx r2 (fun s3 I3 => ⟨_, H2, I3, q2⟩) hf
  rcases l with ⟨hk, hm⟩ | ⟨hk, c, hc, hcell⟩
  · exact wpAny_loadName_local I.ok.kind hk hn hm go
  · rcases hk with hk | hk
    · exact wpAny_loadName_cell I.ok.kind hk hc hcell go
    · rcases hx with k | k
      · have : X.env.scope.names.lookup x = some .free := hk
        rw [k] at this; cases this
      · have : X.env.scope.names.lookup x = some .free := hk
        rw [k] at this; cases this
/-- o[i] op= e -/
def tAugS (to ti te : TE) (tget : V → V → Hp → VK → Prop) (tip : TIp) (tset : TSet) : TS := fun D σ H => to σ H fun o H1 => ti σ H1 fun i H2 => tget o i H2 fun x H3 => te σ H3 fun y H4 => tip x y H4 fun z H5 => tset o i z H5 fun H6 => D.nx σ H6
/-- o[i], by values -/
def PGet (X : Cx) (t : V → V → Hp → VK → Prop) : Prop :=
  ∀ (pins : List (Addr × Obj)) (s : Shared) (σ : St) (H : Hp) (o i : V) (ov iv : Value) (Q : VK), Inv X pins σ H s → RelV o ov → RelV i iv → t o i H Q →
    wpAny (model X.prog X.w) X.A (getItem ov iv) (EP X pins σ Q) X.xe s
theorem ps_augS {o i e : Expr} {to ti te : TE} {tget : V → V → Hp → VK → Prop} {tip : TIp} {tset : TSet} {op : Operator} {tpos : Pos} (ho : PE X o to) (hi : PE X i ti) (hg : PGet X tget) (he : PE X e te) (hp : PIp X op tip) (hs : PSet X tset)
    (ha : ∀ ov iv new, augStore i ov iv new = (do holding [new, ov, iv] (setItem ov iv new); release [new, ov, iv] []; pure .next) := by intros; rfl) : PS X (.AugAssign (.Subscript o i tpos) op e pos) (tAugS to ti te tget tip tset) := by
  intro pins s σ H D I h
  refine wpAny_AugAssign_SubscriptAny (thn (ho pins s σ H _ I h) fun ov s1 ⟨x1, H1, I1, r1, q1⟩ => ?_) ha
  refine thn (hi pins s1 σ H1 _ I1 q1) fun iv s2 ⟨x2, H2, I2, r2, q2⟩ => ?_
  refine thn (hg pins s2 σ H2 x1 x2 ov iv _ I2 r1 r2 q2) fun old s3 ⟨x3, H3, I3, r3, q3⟩ => ?_
  refine thn (he pins s3 σ H3 _ I3 q3) fun v s4 ⟨x4, H4, I4, r4, q4⟩ => ?_
  refine thn (hp pins s4 σ H4 x3 x4 old v _ I4 r3 r4 q4) fun new s5 ⟨x5, H5, I5, r5, q5⟩ => ?_
  exact thn (hs pins s5 σ H5 x1 x2 x5 ov iv new _ I5 r1 r2 r5 q5) fun _ s6 ⟨H6, I6, q6⟩ => ⟨σ, H6, I6, q6⟩
/-- ints -/
def ipI (f : Int → Int → Int) : TIp := fun x y H Q => ∃ i j, x = .int i ∧ y = .int j ∧ Q (.int (f i j)) H
theorem ip_add : PIp X .Add (ipI fun i j => i + j) := by
  intro pins s σ H x y v u Q I r1 r2 h
  obtain ⟨i, j, e1, e2, q⟩ := h
  subst e1; subst e2
  obtain ⟨t, rfl⟩ := r1
  obtain ⟨t', rfl⟩ := r2
  exact iadd_int ⟨.int _, H, I.tok _, ⟨_, rfl⟩, q⟩
theorem ip_sub : PIp X .Sub (ipI fun i j => i - j) := by
  intro pins s σ H x y v u Q I r1 r2 h
  obtain ⟨i, j, e1, e2, q⟩ := h
  subst e1; subst e2
  obtain ⟨t, rfl⟩ := r1
  obtain ⟨t', rfl⟩ := r2
  exact isub_int ⟨.int _, H, I.tok _, ⟨_, rfl⟩, q⟩
end

/-! ### while -/
section
variable {X : Cx} {pos : Pos}
/-- the invariant W with its measure -/
def tWhile (c : TT) (tb : TS) : TS := fun D σ H => ∃ W : Nat → St → Hp → Prop, (∃ m, W m σ H) ∧ ∀ m σ H, W m σ H →
  c σ H fun b H1 => if b = true then ∃ N : St → Hp → Prop, (∀ σ' H', N σ' H' → ∃ m', m' < m ∧ W m' σ' H') ∧ tb { D with nx := N, ct := N, bk := D.nx } σ H1 else D.nx σ H1
theorem ps_while {c : Expr} {body : List Stmt} {tc : TT} {tb : TS} (hp : PassesOwn (model X.prog X.w) X.A X.env X.xe) (hc : PT X c tc) (hb : PSs X body tb) : PS X (.While c body [] pos) (tWhile tc tb) := by
  intro pins s σ H D I h
  obtain ⟨W, ⟨m0, w0⟩, turn⟩ := h
  refine wpAny_While (codeAny_whileLoop (fun n s' => ∃ σ' H', Inv X pins σ' H' s' ∧ W n σ' H') ?_ m0 ⟨σ, H, I, w0⟩)
  rintro n s1 ⟨σ1, H1, I1, w1⟩
  refine wpAny_passesOwn hp (thn (hc pins s1 σ1 H1 _ I1 (turn n σ1 H1 w1)) fun b s2 ⟨H2, I2, q2⟩ => ?_)
  cases b with
  | true =>
    obtain ⟨N, hN, q2⟩ := q2
    rw [if_pos rfl]
    refine wpAny_passesOwn hp (thn (hb pins s2 σ1 H2 _ I2 q2) fun f s3 q3 => ?_)
    cases f with
    | next =>
      obtain ⟨σ3, H3, I3, n3⟩ := q3
      obtain ⟨m', hm, w3⟩ := hN σ3 H3 n3
      exact ⟨m', hm, σ3, H3, I3, w3⟩
    | cont =>
      obtain ⟨σ3, H3, I3, n3⟩ := q3
      obtain ⟨m', hm, w3⟩ := hN σ3 H3 n3
      exact ⟨m', hm, σ3, H3, I3, w3⟩
    | brk => exact q3
    | ret v => exact q3
  | false =>
    rw [if_neg Bool.false_ne_true]
    exact wpAny_execs_nil ⟨σ1, H2, I2, q2⟩
end

/-! ### what a loop or a comprehension walks -/
/-- at turn i: it yields x (the heap may grow), or it stops -/
structure It where
  go : Nat → Hp → Prop
  yld : Nat → Hp → V → Hp → Prop
  stop : Nat → Hp → Prop
/-- the iterator's own objects may turn: they are not the frame's, not pinned, younger than the entry (or a comprehension's own) -/
def FpOk (X : Cx) (pins : List (Addr × Obj)) (H : Hp) (b : Addr) : Prop :=
  H b = none ∧ b ≠ X.env.locals ∧ b ∉ X.fs ∧ (b ∈ X.ex ∨ X.s₀.heap.objs.size ≤ b) ∧ (∀ x c, X.env.cells.lookup x = some c → c ≠ b) ∧ ∀ p ∈ X.pn ++ pins, p.1 ≠ b
theorem Inv.fpOk {X : Cx} {pins : List (Addr × Obj)} {σ : St} {H H' : Hp} {s : Shared} {b : Addr} (I : Inv X pins σ H s) (hb : s.heap.objs.size ≤ b) (hn : H' b = none) : FpOk X pins H' b := by
  refine ⟨hn, Nat.ne_of_gt (Nat.lt_of_lt_of_le I.lt hb), I.nofs hb, .inr (Nat.le_trans I.sz hb), fun x c e z => ?_, fun p hp z => ?_⟩
  · obtain ⟨v, q⟩ := I.cell x c e
    exact absurd (Nat.lt_of_lt_of_le q.lt (by rw [z]; exact hb)) (Nat.lt_irrefl _)
  · exact absurd (Nat.lt_of_lt_of_le (Heap.lt_size (I.pin p hp).1) (by rw [z]; exact hb)) (Nat.lt_irrefl _)
structure Turn (P : Program) (w : World) (K : PySem.W.Frag) (tg : Expr) (J : It) (fp : List Addr) (it : Addr) (tn : Nat → Heap → Prop) : Prop where
  mem : it ∈ fp
  obj : ∀ i h, tn i h → ∀ b ∈ fp, ∃ o, h.get? b = some o ∧ ∀ v, o.data ≠ .cell v
  keep : ∀ i h h', tn i h → (∀ b ∈ fp, ∀ o, h.get? b = some o → h'.get? b = some o) → tn i h'
  item : ∀ (X : Cx), X.prog = P → X.w = w → X.K = K → X.calm = true → ∀ (i : Nat) (pins : List (Addr × Obj)) (s : Shared) (σ : St) (H : Hp) (E : Value → Shared → Prop), Inv X pins σ H s → (∀ b ∈ fp, FpOk X pins H b) → tn i s.heap → J.go i H →
    wpAny (model P w) X.A (pyNext (.ref it)) (fun r s1 => ∃ u, r = some u ∧
      wpAny (model P w) X.A (letOwnedTupleGo tg (.ref it) u) (fun _ s2 => ∃ x H', Inv X pins σ H' s2 ∧ RelV x u ∧ J.yld i H x H' ∧ tn (i + 1) s2.heap ∧ ∀ b ∈ fp, H' b = none) E s1) E s
  done : ∀ (X : Cx), X.prog = P → X.w = w → X.K = K → X.calm = true → ∀ (i : Nat) (pins : List (Addr × Obj)) (s : Shared) (σ : St) (H : Hp) (E : Value → Shared → Prop), Inv X pins σ H s → (∀ b ∈ fp, FpOk X pins H b) → tn i s.heap → J.stop i H →
    wpAny (model P w) X.A (pyNext (.ref it)) (fun r s1 => r = none ∧ Inv X pins σ H s1) E s
  self : ∀ (A : Around) (i : Nat) (s : Shared) (Q : Value → Shared → Prop) (E : Value → Shared → Prop), tn i s.heap → Q (.ref it) s → wpAny (model P w) A (pyIter (.ref it)) Q E s
abbrev TI := St → Hp → (It → Hp → Prop) → Prop
/-- an iterator has come -/
def PIE (X : Cx) (pins : List (Addr × Obj)) (σ : St) (tg : Expr) (R : It → Hp → Prop) (itv : Value) (s2 : Shared) : Prop :=
  ∃ (it : Addr) (fp : List Addr) (tn : Nat → Heap → Prop) (J : It) (H' : Hp), itv = .ref it ∧ Inv X pins σ H' s2 ∧ Turn X.prog X.w X.K tg J fp it tn ∧ tn 0 s2.heap ∧ (∀ b ∈ fp, FpOk X pins H' b) ∧ R J H'
def PI (X : Cx) (tg iter : Expr) (wi : TI) : Prop :=
  ∀ (pins : List (Addr × Obj)) (s : Shared) (σ : St) (H : Hp) (R : It → Hp → Prop), Inv X pins σ H s → wi σ H R →
    wpAny (model X.prog X.w) X.A (eval iter X.env) (fun v s1 => wpAny (model X.prog X.w) X.A (pyIter v) (PIE X pins σ tg R) X.xe s1) X.xe s

/-- the step ahead of the store is nothing for an iterator that keeps no tuple -/
theorem go_of {M : Model} {A : Around} {E : Value → Shared → Prop} {s : Shared} {tg : Expr} {it : Addr} {u : Value} {o : Obj} {n : String} {vs : Array Value} {Q : Unit → Shared → Prop} (ho : s.heap.get? it = some o) (hc : o.cls = .type n) (hd : o.data = .fields vs)
    (hn : ["enumerate", "zip", "dict_itemiterator", "dict_reverseitemiterator", "odict_iterator", "itertools.zip_longest", "itertools.pairwise"].contains n = false) (hQ : Q () s) : wpAny M A (letOwnedTupleGo tg (.ref it) u) Q E s := by
  unfold letOwnedTupleGo
  cases tg <;> first
    | exact wpAny_pure hQ
    | (cases u <;> first
        | exact wpAny_pure hQ
        | (refine wpAny_bind (wpAny_load ho ?_)
           rw [hc, hd]
           show wpAny M A (if (["enumerate", "zip", "dict_itemiterator", "dict_reverseitemiterator", "odict_iterator", "itertools.zip_longest", "itertools.pairwise"].contains n && vs[0]? == some (rawInt _)) = true then _ else _) Q E s
           rw [if_neg (by intro h; rw [hn, Bool.false_and] at h; cases h)]
           exact wpAny_pure hQ))

/-- the list at a, as it stands at each turn (a loop may append to it) -/
def Itl (K : PySem.W.Frag) (a : Addr) : It :=
  ⟨fun i H => ∃ xs x, SqL K H a xs ∧ xs[i]? = some x, fun i H x H' => H' = H ∧ ∀ xs, SqL K H a xs → xs[i]? = some x, fun i H => ∃ xs, SqL K H a xs ∧ xs.length ≤ i⟩
def Itt (K : PySem.W.Frag) (a : Addr) : It :=
  ⟨fun i H => ∃ xs x, SqT K H a xs ∧ xs[i]? = some x, fun i H x H' => H' = H ∧ ∀ xs, SqT K H a xs → xs[i]? = some x, fun i H => ∃ xs, SqT K H a xs ∧ xs.length ≤ i⟩
/-- lo, lo + 1, .. (n of them) -/
def Itr (lo : Int) (n : Nat) : It := ⟨fun i _ => i < n, fun i H x H' => H' = H ∧ x = .int (lo + i), fun i _ => n ≤ i⟩
theorem turn_list {P : Program} {w : World} {K : PySem.W.Frag} {tg : Expr} (a it : Addr) : Turn P w K tg (Itl K a) [it] it (fun i h => h.IsListIter it a i) where
  mem := by simp
  obj := fun i h st b hb => by
    have e : b = it := by simpa using hb
    subst e
    obtain ⟨o, e, c, d⟩ := st
    exact ⟨o, e, fun v z => by rw [d] at z; cases z⟩
  keep := fun i h h' st k => st.at fun o e => k it (by simp) o e
  item := by
    intro X hP hw hK hc i pins s σ H E I hf st hg
    subst hP hw hK
    obtain ⟨xs, x, hq, hx⟩ := hg
    obtain ⟨its, rv, p, hz⟩ := I.list hq
    obtain ⟨u, hu, ru⟩ := rv.get hx
    obtain ⟨f0, f1, f2, f3, f4, f5⟩ := hf it (by simp)
    refine wpAny_pyNext_list_item st p.isList (x := u) (by simpa using hu) fun h' st' sb => ?_
    have I1 : Inv X pins σ H { s with heap := h' } := I.turned (t' := s.toks) (fun b o hb e => (sb.2 b hb).trans e) f0 f1 f3 f4 f5
    obtain ⟨o, e, c, d⟩ := id st'
    exact ⟨u, rfl, go_of (s := { s with heap := h' }) e c d (by decide) ⟨x, H, I1, ru, ⟨rfl, fun ys hy => by rw [I.list_inj hy hq]; exact hx⟩, st', fun b hb => (hf b hb).1⟩⟩
  done := by
    intro X hP hw hK hc i pins s σ H E I hf st hg
    subst hP hw hK
    obtain ⟨xs, hq, hx⟩ := hg
    obtain ⟨its, rv, p, hz⟩ := I.list hq
    obtain ⟨f0, f1, f2, f3, f4, f5⟩ := hf it (by simp)
    have hl := rv.length
    exact wpAny_pyNext_list_end (I.ok.hd hc) st p.isList (by simp; omega) fun h' eb => ⟨rfl, I.turned (t' := s.toks) (fun b o hb e => eb b o hb e) f0 f1 f3 f4 f5⟩
  self := fun _ _ _ _ _ st h => wpAny_pyIter_listiter st h
theorem turn_tuple {P : Program} {w : World} {K : PySem.W.Frag} {tg : Expr} (a it : Addr) : Turn P w K tg (Itt K a) [it] it (fun i h => h.IsTupleIter it a i) where
  mem := by simp
  obj := fun i h st b hb => by
    have e : b = it := by simpa using hb
    subst e
    obtain ⟨o, e, c, d⟩ := st
    exact ⟨o, e, fun v z => by rw [d] at z; cases z⟩
  keep := fun i h h' st k => st.at fun o e => k it (by simp) o e
  item := by
    intro X hP hw hK hc i pins s σ H E I hf st hg
    subst hP hw hK
    obtain ⟨xs, x, hq, hx⟩ := hg
    obtain ⟨its, rv, p, hz⟩ := I.tuple hq
    obtain ⟨u, hu, ru⟩ := rv.get hx
    obtain ⟨f0, f1, f2, f3, f4, f5⟩ := hf it (by simp)
    refine wpAny_pyNext_tuple_item st (show s.heap.IsTuple a its.toArray from p) (x := u) (by simpa using hu) fun h' st' sb => ?_
    have I1 : Inv X pins σ H { s with heap := h' } := I.turned (t' := s.toks) (fun b o hb e => (sb.2 b hb).trans e) f0 f1 f3 f4 f5
    obtain ⟨o, e, c, d⟩ := id st'
    exact ⟨u, rfl, go_of (s := { s with heap := h' }) e c d (by decide) ⟨x, H, I1, ru, ⟨rfl, fun ys hy => by rw [I.tuple_inj hy hq]; exact hx⟩, st', fun b hb => (hf b hb).1⟩⟩
  done := by
    intro X hP hw hK hc i pins s σ H E I hf st hg
    subst hP hw hK
    obtain ⟨xs, hq, hx⟩ := hg
    obtain ⟨its, rv, p, hz⟩ := I.tuple hq
    obtain ⟨f0, f1, f2, f3, f4, f5⟩ := hf it (by simp)
    have hl := rv.length
    exact wpAny_pyNext_tuple_end (I.ok.hd hc) st (show s.heap.IsTuple a its.toArray from p) (by simp; omega) fun h' eb => ⟨rfl, I.turned (t' := s.toks) (fun b o hb e => eb b o hb e) f0 f1 f3 f4 f5⟩
  self := fun _ _ _ _ _ st h => wpAny_pyIter_tupleiter st h
theorem turn_range {P : Program} {w : World} {K : PySem.W.Frag} {tg : Expr} (it : Addr) (lo : Int) (n : Nat) : Turn P w K tg (Itr lo n) [it] it (fun i h => IsRangeIter h it (lo + (i : Nat) * 1) ((n : Int) - (i : Nat)) 1) where
  mem := by simp
  obj := fun i h st b hb => by
    have e : b = it := by simpa using hb
    subst e
    exact ⟨_, st, fun v z => by
      have z' : Data.fields _ = Data.cell v := z
      cases z'⟩
  keep := fun i h h' st k => k it (by simp) _ st
  item := by
    intro X hP hw hK hc i pins s σ H E I hf st hg
    subst hP hw hK
    obtain ⟨f0, f1, f2, f3, f4, f5⟩ := hf it (by simp)
    have W := Walks.range (prog := X.prog) (w := X.w) (I.ok.hd hc) it lo 1 n
    refine W.item i s _ _ hg st fun v h' tk hv st' kk => ?_
    obtain ⟨t, rfl⟩ := hv
    have I1 : Inv X pins σ H { s with heap := h', toks := tk } := I.turned (fun b o hb e => kk b o (by simpa using hb) e) f0 f1 f3 f4 f5
    refine ⟨_, rfl, go_of (s := { s with heap := h', toks := tk }) (n := "range_iterator") st' rfl rfl (by decide) ⟨.int (lo + i), H, I1, ⟨t, ?_⟩, ⟨rfl, rfl⟩, st', fun b hb => (hf b hb).1⟩⟩
    rw [Int.mul_one]
  done := by
    intro X hP hw hK hc i pins s σ H E I hf st hg
    subst hP hw hK
    obtain ⟨f0, f1, f2, f3, f4, f5⟩ := hf it (by simp)
    exact wpAny_pyNext_range_end (I.ok.hd hc) st (by have : n ≤ i := hg; omega) fun h' eb => ⟨rfl, I.turned (t' := s.toks) (fun b o hb e => eb b o hb e) f0 f1 f3 f4 f5⟩
  self := fun _ _ _ _ _ st h => wpAny_pyIter_rangeiter st h
end L2

namespace L2
open PySem PySem.Spec PyProof.Rows
section
variable {X : Cx} {tg : Expr}
def iList (K : PySem.W.Frag) (tl : TE) : TI := fun σ H R => tl σ H fun x H1 => ∃ a, x = .ref a ∧ (∃ xs, SqL K H1 a xs) ∧ R (Itl K a) H1
def iTup (K : PySem.W.Frag) (tl : TE) : TI := fun σ H R => tl σ H fun x H1 => ∃ a, x = .ref a ∧ (∃ xs, SqT K H1 a xs) ∧ R (Itt K a) H1
theorem pi_list {l : Expr} {tl : TE} (hl : PE X l tl) : PI X tg l (iList X.K tl) := by
  intro pins s σ H R I h
  refine thn (hl pins s σ H _ I h) fun v s1 ⟨x, H1, I1, r1, q1⟩ => ?_
  obtain ⟨a, e, ⟨xs, hq⟩, q⟩ := q1
  subst e
  cases r1
  obtain ⟨its, rv, p, hz⟩ := I1.list hq
  refine wpAny_pyIter_list p.isList ?_
  refine ⟨s1.heap.objs.size, [s1.heap.objs.size], _, _, H1, rfl, I1.kept (t' := s1.toks) fun b o e => Heap.get?_push_of_some _ e, turn_list a _, ⟨_, Heap.get?_push_size _ rfl, rfl, rfl⟩, fun b hb => ?_, q⟩
  have e : b = s1.heap.objs.size := by simpa using hb
  subst e
  exact I1.fpOk (Nat.le_refl _) (I1.hok.fresh (Nat.le_refl _))
theorem pi_tup {l : Expr} {tl : TE} (hl : PE X l tl) : PI X tg l (iTup X.K tl) := by
  intro pins s σ H R I h
  refine thn (hl pins s σ H _ I h) fun v s1 ⟨x, H1, I1, r1, q1⟩ => ?_
  obtain ⟨a, e, ⟨xs, hq⟩, q⟩ := q1
  subst e
  cases r1
  obtain ⟨its, rv, p, hz⟩ := I1.tuple hq
  refine wpAny_pyIter_tuple (show s1.heap.IsTuple a its.toArray from p) ?_
  refine ⟨s1.heap.objs.size, [s1.heap.objs.size], _, _, H1, rfl, I1.kept (t' := s1.toks) fun b o e => Heap.get?_push_of_some _ e, turn_tuple a _, ⟨_, Heap.get?_push_size _ rfl, rfl, rfl⟩, fun b hb => ?_, q⟩
  have e : b = s1.heap.objs.size := by simpa using hb
  subst e
  exact I1.fpOk (Nat.le_refl _) (I1.hok.fresh (Nat.le_refl _))
/-- a range object just made, walked -/
theorem range_it {pins : List (Addr × Obj)} {σ : St} {H : Hp} {s : Shared} {R : It → Hp → Prop} {E : Value → Shared → Prop} {lo hi : Int} {t u v : Tok} {tk : Nat} (I : Inv X pins σ H s) (h1 : -(2 ^ 62) ≤ lo) (h2 : lo < 2 ^ 62) (h3 : -(2 ^ 62) ≤ hi) (h4 : hi < 2 ^ 62)
    (q : R (Itr lo (hi - lo).toNat) H) : wpAny (model X.prog X.w) X.A (pyIter (.ref s.heap.objs.size)) (PIE X pins σ tg R) E { s with heap := s.heap.push { cls := .type "range", data := .fields #[.int lo t, .int hi u, .int 1 v] }, toks := tk } := by
  refine wpAny_pyIter_range (IsRange.new ..) (small_one h1 h2 h3 h4) ?_
  have I1 : Inv X pins σ H { s with heap := s.heap.push { cls := .type "range", data := .fields #[.int lo t, .int hi u, .int 1 v] }, toks := tk } := I.kept fun b o e => Heap.get?_push_of_some _ e
  refine ⟨(s.heap.push { cls := .type "range", data := .fields #[.int lo t, .int hi u, .int 1 v] }).objs.size, [(s.heap.push { cls := .type "range", data := .fields #[.int lo t, .int hi u, .int 1 v] }).objs.size], _, _, H, rfl,
    I1.kept (t' := tk) fun b o e => Heap.get?_push_of_some _ e, turn_range _ lo (hi - lo).toNat, ?_, fun b hb => ?_, q⟩
  · have e1 : lo + ((0 : Nat) : Int) * 1 = lo := by simp
    have e2 : (((hi - lo).toNat : Nat) : Int) - ((0 : Nat) : Int) = Builtin.Range.rangeSize lo hi 1 := by rw [rangeSize_one]; split <;> omega
    show IsRangeIter _ _ (lo + ((0 : Nat) : Int) * 1) ((((hi - lo).toNat : Nat) : Int) - ((0 : Nat) : Int)) 1
    rw [e1, e2]
    exact Heap.get?_push_size _ rfl
  · have e : b = (s.heap.push { cls := .type "range", data := .fields #[.int lo t, .int hi u, .int 1 v] }).objs.size := by simpa using hb
    subst e
    exact I1.fpOk (Nat.le_refl _) (I1.hok.fresh (Nat.le_refl _))
def iRng1 (ta : TA) : TI := fun σ H R => ta σ H fun vs H1 => ∃ j : Int, vs = [.int j] ∧ -(2 ^ 62) ≤ j ∧ j < 2 ^ 62 ∧ R (Itr 0 j.toNat) H1
def iRng2 (ta : TA) : TI := fun σ H R => ta σ H fun vs H1 => ∃ i j : Int, vs = [.int i, .int j] ∧ (-(2 ^ 62) ≤ i ∧ i < 2 ^ 62 ∧ -(2 ^ 62) ≤ j ∧ j < 2 ^ 62) ∧ R (Itr i (j - i).toNat) H1
theorem pi_range1 {a : Expr} {ta : TA} {p pos : Pos} (hg : Gl X "range") (hm : X.mg "range" = none) (ha : PA X [a] ta) (hs : starEach [a] X.env = [(false, eval a X.env)] := by rfl) : PI X tg (.Call (.Name "range" p) [a] [] pos) (iRng1 ta) := by
  intro pins s σ H R I h
  refine Call_ (ld_blt I hg hm boot_range (PyProof.Rows.callWith_type1 (thn (ha pos pins s σ H _ I h) fun us s1 ⟨vs, H1, I1, r1, q1⟩ => ?_) hs rfl))
  obtain ⟨j, e, q1, q2, q⟩ := q1
  subst e
  cases r1 with
  | cons r rr =>
    cases rr
    obtain ⟨t, rfl⟩ := r
    exact call_range_1 (range_it I1 (by omega) (by omega) q1 q2 (by simpa using q))
theorem pi_range2 {a b : Expr} {ta : TA} {p pos : Pos} (hg : Gl X "range") (hm : X.mg "range" = none) (ha : PA X [a, b] ta) (hs : starEach [a, b] X.env = [(false, eval a X.env), (false, eval b X.env)] := by rfl) (hs2 : starEach [b] X.env = [(false, eval b X.env)] := by rfl) :
    PI X tg (.Call (.Name "range" p) [a, b] [] pos) (iRng2 ta) := by
  intro pins s σ H R I h
  refine Call_ (ld_blt I hg hm boot_range (PyProof.Rows.callWith_type1 (thn (ha pos pins s σ H _ I h) fun us s1 ⟨vs, H1, I1, r1, q1⟩ => ?_) (by rw [hs, hs2]) (by rw [hs2]; rfl)))
  obtain ⟨i, j, e, ⟨q1, q2, q3, q4⟩, q⟩ := q1
  subst e
  cases r1 with
  | cons r rr =>
    cases rr with
    | cons r' rr =>
      cases rr
      obtain ⟨t, rfl⟩ := r
      obtain ⟨t', rfl⟩ := r'
      exact call_range_2 (range_it I1 q1 q2 q3 q4 q)

/-! ### for -/
/-- W: the invariant by the turn and a measure; N: what the body is to reach -/
def tFor (wi : TI) (g : TG) (tb : TS) : TS := fun D σ H => wi σ H fun J H1 => ∃ W : Nat → Nat → St → Hp → Prop, (∃ m, W 0 m σ H1) ∧ ∀ i m σ H, W i m σ H →
  (J.stop i H ∧ D.nx σ H) ∨ (J.go i H ∧ ∃ N : St → Hp → Prop, (∀ σ' H', N σ' H' → ∃ m', m' < m ∧ W (i + 1) m' σ' H') ∧ ∀ x H', J.yld i H x H' → g x σ H' fun σ2 H2 => tb { D with nx := N, ct := N, bk := D.nx } σ2 H2)
/-- the records at fp as they stand -/
def pinsAt (fp : List Addr) (h : Heap) : List (Addr × Obj) := fp.filterMap fun b => (h.get? b).map fun o => (b, o)
theorem mem_pinsAt {fp : List Addr} {h : Heap} {b : Addr} {o : Obj} (hb : b ∈ fp) (e : h.get? b = some o) : (b, o) ∈ pinsAt fp h := List.mem_filterMap.mpr ⟨b, hb, by rw [e]; rfl⟩
theorem of_pinsAt {fp : List Addr} {h : Heap} {p : Addr × Obj} (hp : p ∈ pinsAt fp h) : p.1 ∈ fp ∧ h.get? p.1 = some p.2 := by
  obtain ⟨b, hb, e⟩ := List.mem_filterMap.mp hp
  cases q : h.get? b with
  | none => rw [q] at e; cases e
  | some o =>
    rw [q] at e
    have e' : (b, o) = p := Option.some.inj e
    subst e'
    exact ⟨hb, q⟩
theorem Inv.pinned {pins : List (Addr × Obj)} {σ : St} {H : Hp} {s : Shared} {fp : List Addr} (I : Inv X pins σ H s) (hf : ∀ b ∈ fp, FpOk X pins H b) (ho : ∀ b ∈ fp, ∃ o, s.heap.get? b = some o ∧ ∀ v, o.data ≠ .cell v) : Inv X (pins ++ pinsAt fp s.heap) σ H s :=
  I.pins_of fun p hp => (List.mem_append.mp hp).elim (fun z => I.pin p (List.mem_append_right _ z)) fun z => by
    obtain ⟨hb, e⟩ := of_pinsAt z
    obtain ⟨f0, f1, f2, _⟩ := hf p.1 hb
    obtain ⟨o, e', d⟩ := ho p.1 hb
    rw [e] at e'; cases e'
    exact ⟨e, f0, f1, f2, d⟩
theorem Inv.unpinned {pins pl : List (Addr × Obj)} {σ : St} {H : Hp} {s : Shared} (I : Inv X (pins ++ pl) σ H s) : Inv X pins σ H s := I.pins_of fun p hp => I.pin p (List.mem_append_right _ (List.mem_append_left _ hp))
theorem ps_for {iter : Expr} {body : List Stmt} {wi : TI} {g : TG} {tb : TS} {pos : Pos} (hp : PassesOwn (model X.prog X.w) X.A X.env X.xe) (hc : X.calm = true) (hi : PI X tg iter wi) (hg : PG X tg g) (hb : PSs X body tb)
    (hs : ∀ x, foldedSetIterable iter X.env x = pure x := by intro _; rfl) : PS X (.For tg iter body [] pos) (tFor wi g tb) := by
  intro pins s σ H D I h
  refine wpAny_For (thn (hi pins s σ H _ I h) fun v s1 h1 => thn h1 fun itv s2 h2 => ?_) hs
  obtain ⟨it, fp, tn, J, H2, e, I2, T, st2, f2, W, ⟨m0, w0⟩, turn⟩ := h2
  subst e
  -- what stays true of the iterator's objects through the loop
  have stat : ∀ {H' : Hp}, (∀ b ∈ fp, H' b = none) → ∀ b ∈ fp, FpOk X pins H' b := fun hn b hb => ⟨hn b hb, (f2 b hb).2⟩
  refine codeAny_forLoop_any (fun n s' => ∃ i σ' H', Inv X pins σ' H' s' ∧ tn i s'.heap ∧ (∀ b ∈ fp, H' b = none) ∧ W i n σ' H') ?_ m0 ⟨0, σ, H2, I2, st2, fun b hb => (f2 b hb).1, w0⟩
  rintro n s3 ⟨i, σ3, H3, I3, st3, fr3, w3⟩
  rcases turn i n σ3 H3 w3 with ⟨stop, qn⟩ | ⟨go, N, hN, step⟩
  · refine wpAny_passesOwn hp (thn (T.done X rfl rfl rfl hc i pins s3 σ3 H3 X.xe I3 (stat fr3) st3 stop) fun r s4 ⟨hr, I4⟩ => ?_)
    subst hr
    exact wpAny_execs_nil ⟨σ3, H3, I4, qn⟩
  · refine wpAny_passesOwn hp (thn (T.item X rfl rfl rfl hc i pins s3 σ3 H3 X.xe I3 (stat fr3) st3 go) fun r s4 ⟨u, hr, h4⟩ => ?_)
    subst hr
    refine wpAny_passesOwn hp (thn h4 fun _ s5 ⟨x, H5, I5, r5, y5, st5, fr5⟩ => ?_)
    have I5' := I5.pinned (stat fr5) (T.obj _ _ st5)
    refine wpAny_passesOwn hp (thn (hg _ s5 σ3 H5 x u _ I5' r5 (step x H5 y5)) fun _ s6 ⟨σ6, H6, I6, q6⟩ => ?_)
    refine wpAny_passesOwn hp (thn (hb _ s6 σ6 H6 _ I6 q6) fun f s7 q7 => ?_)
    have again : ∀ {σ7 : St} {H7 : Hp}, Inv X (pins ++ pinsAt fp s5.heap) σ7 H7 s7 → N σ7 H7 → ∃ m, m < n ∧ ∃ i σ' H', Inv X pins σ' H' s7 ∧ tn i s7.heap ∧ (∀ b ∈ fp, H' b = none) ∧ W i m σ' H' := fun {σ7 H7} I7 n7 => by
      obtain ⟨m', hm, w7⟩ := hN σ7 H7 n7
      refine ⟨m', hm, i + 1, σ7, H7, I7.unpinned, T.keep _ _ _ st5 fun b hb o e => (I7.pin (b, o) (List.mem_append_right _ (List.mem_append_right _ (mem_pinsAt hb e)))).1, fun b hb => ?_, w7⟩
      obtain ⟨o, e, d⟩ := T.obj _ _ st5 b hb
      exact (I7.pin (b, o) (List.mem_append_right _ (List.mem_append_right _ (mem_pinsAt hb e)))).2.1
    cases f with
    | next => obtain ⟨σ7, H7, I7, n7⟩ := q7; exact again I7 n7
    | cont => obtain ⟨σ7, H7, I7, n7⟩ := q7; exact again I7 n7
    | brk => obtain ⟨σ7, H7, I7, q7⟩ := q7; exact ⟨σ7, H7, I7.unpinned, q7⟩
    | ret v => obtain ⟨x7, σ7, H7, I7, r7, q7⟩ := q7; exact ⟨x7, σ7, H7, I7.unpinned, r7, q7⟩
end

/-! ### the forms one uses -/
/-- over a list that the body leaves as it is -/
theorem for_list {K : PySem.W.Frag} {a : Addr} {xs : List V} {g : TG} {tb : TS} {D : Ends} {σ : St} {H : Hp} (Pv : Nat → St → Hp → Prop) (h0 : Pv 0 σ H) (hl : ∀ i σ H, i ≤ xs.length → Pv i σ H → SqL K H a xs)
    (hs : ∀ i x σ H, xs[i]? = some x → Pv i σ H → g x σ H fun σ2 H2 => tb { D with nx := Pv (i + 1), ct := Pv (i + 1), bk := D.nx } σ2 H2) (hd : ∀ σ H, Pv xs.length σ H → D.nx σ H) :
    ∃ W : Nat → Nat → St → Hp → Prop, (∃ m, W 0 m σ H) ∧ ∀ i m σ H, W i m σ H →
      ((Itl K a).stop i H ∧ D.nx σ H) ∨ ((Itl K a).go i H ∧ ∃ N : St → Hp → Prop, (∀ σ' H', N σ' H' → ∃ m', m' < m ∧ W (i + 1) m' σ' H') ∧ ∀ x H', (Itl K a).yld i H x H' → g x σ H' fun σ2 H2 => tb { D with nx := N, ct := N, bk := D.nx } σ2 H2) := by
  refine ⟨fun i m σ H => m = xs.length - i ∧ i ≤ xs.length ∧ Pv i σ H, ⟨xs.length, by simp, Nat.zero_le _, h0⟩, ?_⟩
  rintro i m σ H ⟨rfl, hi, p⟩
  have q := hl i σ H hi p
  by_cases hlt : i < xs.length
  · refine .inr ⟨⟨xs, xs[i], q, by simp [hlt]⟩, Pv (i + 1), fun σ' H' p' => ⟨xs.length - (i + 1), by omega, rfl, hlt, p'⟩, fun x H' y => ?_⟩
    obtain ⟨e, y⟩ := y
    subst e
    exact hs i x σ _ (y xs q) p
  · have e : i = xs.length := by omega
    subst e
    exact .inl ⟨⟨xs, q, Nat.le_refl _⟩, hd σ H p⟩
theorem for_tup {K : PySem.W.Frag} {a : Addr} {xs : List V} {g : TG} {tb : TS} {D : Ends} {σ : St} {H : Hp} (Pv : Nat → St → Hp → Prop) (h0 : Pv 0 σ H) (hl : ∀ i σ H, i ≤ xs.length → Pv i σ H → SqT K H a xs)
    (hs : ∀ i x σ H, xs[i]? = some x → Pv i σ H → g x σ H fun σ2 H2 => tb { D with nx := Pv (i + 1), ct := Pv (i + 1), bk := D.nx } σ2 H2) (hd : ∀ σ H, Pv xs.length σ H → D.nx σ H) :
    ∃ W : Nat → Nat → St → Hp → Prop, (∃ m, W 0 m σ H) ∧ ∀ i m σ H, W i m σ H →
      ((Itt K a).stop i H ∧ D.nx σ H) ∨ ((Itt K a).go i H ∧ ∃ N : St → Hp → Prop, (∀ σ' H', N σ' H' → ∃ m', m' < m ∧ W (i + 1) m' σ' H') ∧ ∀ x H', (Itt K a).yld i H x H' → g x σ H' fun σ2 H2 => tb { D with nx := N, ct := N, bk := D.nx } σ2 H2) := by
  refine ⟨fun i m σ H => m = xs.length - i ∧ i ≤ xs.length ∧ Pv i σ H, ⟨xs.length, by simp, Nat.zero_le _, h0⟩, ?_⟩
  rintro i m σ H ⟨rfl, hi, p⟩
  have q := hl i σ H hi p
  by_cases hlt : i < xs.length
  · refine .inr ⟨⟨xs, xs[i], q, by simp [hlt]⟩, Pv (i + 1), fun σ' H' p' => ⟨xs.length - (i + 1), by omega, rfl, hlt, p'⟩, fun x H' y => ?_⟩
    obtain ⟨e, y⟩ := y
    subst e
    exact hs i x σ _ (y xs q) p
  · have e : i = xs.length := by omega
    subst e
    exact .inl ⟨⟨xs, q, Nat.le_refl _⟩, hd σ H p⟩
theorem for_range {lo : Int} {n : Nat} {g : TG} {tb : TS} {D : Ends} {σ : St} {H : Hp} (Pv : Nat → St → Hp → Prop) (h0 : Pv 0 σ H)
    (hs : ∀ i σ H, i < n → Pv i σ H → g (.int (lo + i)) σ H fun σ2 H2 => tb { D with nx := Pv (i + 1), ct := Pv (i + 1), bk := D.nx } σ2 H2) (hd : ∀ σ H, Pv n σ H → D.nx σ H) :
    ∃ W : Nat → Nat → St → Hp → Prop, (∃ m, W 0 m σ H) ∧ ∀ i m σ H, W i m σ H →
      ((Itr lo n).stop i H ∧ D.nx σ H) ∨ ((Itr lo n).go i H ∧ ∃ N : St → Hp → Prop, (∀ σ' H', N σ' H' → ∃ m', m' < m ∧ W (i + 1) m' σ' H') ∧ ∀ x H', (Itr lo n).yld i H x H' → g x σ H' fun σ2 H2 => tb { D with nx := N, ct := N, bk := D.nx } σ2 H2) := by
  refine ⟨fun i m σ H => m = n - i ∧ i ≤ n ∧ Pv i σ H, ⟨n, by simp, Nat.zero_le _, h0⟩, ?_⟩
  rintro i m σ H ⟨rfl, hi, p⟩
  by_cases hlt : i < n
  · refine .inr ⟨hlt, Pv (i + 1), fun σ' H' p' => ⟨n - (i + 1), by omega, rfl, hlt, p'⟩, fun x H' y => ?_⟩
    obtain ⟨e, y⟩ := y
    subst e y
    exact hs i σ _ hlt p
  · have e : i = n := by omega
    subst e
    exact .inl ⟨Nat.le_refl _, hd σ H p⟩
/-- while, by a word and a measure of the state -/
theorem while_by {c : TT} {tb : TS} {D : Ends} {σ : St} {H : Hp} (Pv : St → Hp → Prop) (μ : St → Hp → Nat) (h0 : Pv σ H)
    (hs : ∀ σ H, Pv σ H → c σ H fun b H1 => if b = true then tb { D with nx := fun σ' H' => Pv σ' H' ∧ μ σ' H' < μ σ H, ct := fun σ' H' => Pv σ' H' ∧ μ σ' H' < μ σ H, bk := D.nx } σ H1 else D.nx σ H1)
    (mono : ∀ σ H Q Q', (∀ b H1, Q b H1 → Q' b H1) → c σ H Q → c σ H Q') : tWhile c tb D σ H := by
  refine ⟨fun m σ H => m = μ σ H ∧ Pv σ H, ⟨_, rfl, h0⟩, ?_⟩
  rintro m σ H ⟨rfl, p⟩
  refine mono σ H _ _ (fun b H1 q => ?_) (hs σ H p)
  cases b with
  | true => exact ⟨_, fun σ' H' ⟨p', l⟩ => ⟨_, l, rfl, p'⟩, q⟩
  | false => exact q
end L2

namespace L2
open PySem PySem.Spec PyProof.Rows

abbrev R2 := V → V → Hp → VK → Prop
/-- a two-place operation on values: f is binaryOp op, inplaceOp op or compareOp op -/
def OpR (X : Cx) (f : Value → Value → Sem Value) (r : R2) : Prop :=
  ∀ (pins : List (Addr × Obj)) (s : Shared) (σ : St) (H : Hp) (x y : V) (v u : Value) (Q : VK), Inv X pins σ H s → RelV x v → RelV y u → r x y H Q →
    wpAny (model X.prog X.w) X.A (f v u) (EP X pins σ Q) X.xe s
/-- a one-place operation -/
def UnR (X : Cx) (f : Value → Sem Value) (r : V → Hp → VK → Prop) : Prop :=
  ∀ (pins : List (Addr × Obj)) (s : Shared) (σ : St) (H : Hp) (x : V) (v : Value) (Q : VK), Inv X pins σ H s → RelV x v → r x H Q →
    wpAny (model X.prog X.w) X.A (f v) (EP X pins σ Q) X.xe s
/-- a call of a value that is known (a builtin, a type) with values -/
def CallR (X : Cx) (f : Value) (r : List V → Hp → VK → Prop) : Prop :=
  ∀ (pins : List (Addr × Obj)) (s : Shared) (σ : St) (H : Hp) (xs : List V) (us : List Value) (Q : VK), Inv X pins σ H s → Vals xs us → r xs H Q →
    wpAny (model X.prog X.w) X.A (call f us) (EP X pins σ Q) X.xe s
/-- a value's truth -/
def TruR (X : Cx) (r : V → Hp → (Bool → Hp → Prop) → Prop) : Prop :=
  ∀ (pins : List (Addr × Obj)) (s : Shared) (σ : St) (H : Hp) (x : V) (v : Value) (Q : Bool → Hp → Prop), Inv X pins σ H s → RelV x v → r x H Q →
    wpAny (model X.prog X.w) X.A (truthy v) (TP X pins σ Q) X.xe s

def tOp (r : R2) (ta tb : TE) : TE := fun σ H Q => ta σ H fun x H1 => tb σ H1 fun y H2 => r x y H2 Q
def tUn (r : V → Hp → VK → Prop) (ta : TE) : TE := fun σ H Q => ta σ H fun x H1 => r x H1 Q
/-- ints in, under C, and a value out -/
def rI (C : Int → Int → Prop) (g : Int → Int → V) : R2 := fun x y H Q => ∃ i j, x = .int i ∧ y = .int j ∧ C i j ∧ Q (g i j) H
def rI0 (g : Int → Int → V) : R2 := fun x y H Q => ∃ i j, x = .int i ∧ y = .int j ∧ Q (g i j) H
def rU (g : Int → V) : V → Hp → VK → Prop := fun x H Q => ∃ i, x = .int i ∧ Q (g i) H

section
variable {X : Cx} {a b c : Expr} {ta tb tc : TE} {pos : Pos}

theorem binT (ha : PE X a ta) (hb : PE X b tb) {pins : List (Addr × Obj)} {s : Shared} {σ : St} {H : Hp} {R : V → V → Hp → Prop} (I : Inv X pins σ H s)
    (h : ta σ H fun x H1 => tb σ H1 fun y H2 => R x y H2) {Q : Value → Shared → Prop} {f : Value → Value → Sem Value}
    (hf : ∀ v u s2 x y H2, Inv X pins σ H2 s2 → RelV x v → RelV y u → R x y H2 → wpAny (model X.prog X.w) X.A (f v u) Q X.xe s2) :
    wpAny (model X.prog X.w) X.A (eval a X.env) (fun v s₁ => wpAny (model X.prog X.w) X.A (eval b X.env) (fun u s₂ => wpAny (model X.prog X.w) X.A (f v u) Q X.xe s₂) X.xe s₁) X.xe s := by
  refine thn (ha pins s σ H _ I h) fun v s1 ⟨x, H1, I1, r1, q1⟩ => ?_
  refine thn (hb pins s1 σ H1 _ I1 q1) fun u s2 ⟨y, H2, I2, r2, q2⟩ => ?_
  exact hf v u s2 x y H2 I2 r1 r2 q2

theorem pe_op {op : Operator} {r : R2} (ho : OpR X (binaryOp op) r) (ha : PE X a ta) (hb : PE X b tb) : PE X (.BinOp a op b pos) (tOp r ta tb) := by
  intro pins s σ H Q I h
  exact wpAny_BinOp (binT ha hb I h fun v u s2 x y H2 I2 rx ry q => ho pins s2 σ H2 x y v u Q I2 rx ry q)
theorem pe_un {op : UnaryOp} {r : V → Hp → VK → Prop} (ho : UnR X (unaryOp op) r) (ha : PE X a ta) : PE X (.UnaryOp op a pos) (tUn r ta) := by
  intro pins s σ H Q I h
  exact UnaryOp_ (thn (ha pins s σ H _ I h) fun v s1 ⟨x, H1, I1, r1, q1⟩ => ho pins s1 σ H1 x v Q I1 r1 q1)
/-- a op= e at a name: the name's slot i -/
theorem augR {op : Operator} {r : R2} (ho : OpR X (inplaceOp op) r) {pins : List (Addr × Obj)} {s : Shared} {σ : St} {H : Hp} {x y : V} {v u : Value} {Q : VK} (I : Inv X pins σ H s)
    (rx : RelV x v) (ry : RelV y u) (q : r x y H Q) : wpAny (model X.prog X.w) X.A (inplaceOp op v u) (EP X pins σ Q) X.xe s := ho pins s σ H x y v u Q I rx ry q

/-! ### ints -/
theorem opI {f : Value → Value → Sem Value} {C : Int → Int → Prop} {g : Int → Int → Int}
    (rule : ∀ (i j : Int) (t u : Tok) (s : Shared) (Q : Value → Shared → Prop) (E : Value → Shared → Prop), C i j → Q (.int (g i j) s.toks) { s with toks := s.toks + 1 } → wpAny (model X.prog X.w) X.A (f (.int i t) (.int j u)) Q E s) :
    OpR X f (rI C fun i j => .int (g i j)) := by
  intro pins s σ H x y v u Q I rx ry h
  obtain ⟨i, j, rfl, rfl, hc, q⟩ := h
  obtain ⟨t, rfl⟩ := rx
  obtain ⟨t', rfl⟩ := ry
  exact rule i j t t' s _ _ hc ⟨.int (g i j), H, I.tok _, ⟨_, rfl⟩, q⟩
theorem opI0 {f : Value → Value → Sem Value} {g : Int → Int → Int}
    (rule : ∀ (i j : Int) (t u : Tok) (s : Shared) (Q : Value → Shared → Prop) (E : Value → Shared → Prop), Q (.int (g i j) s.toks) { s with toks := s.toks + 1 } → wpAny (model X.prog X.w) X.A (f (.int i t) (.int j u)) Q E s) :
    OpR X f (rI0 fun i j => .int (g i j)) := by
  intro pins s σ H x y v u Q I rx ry h
  obtain ⟨i, j, rfl, rfl, q⟩ := h
  obtain ⟨t, rfl⟩ := rx
  obtain ⟨t', rfl⟩ := ry
  exact rule i j t t' s _ _ ⟨.int (g i j), H, I.tok _, ⟨_, rfl⟩, q⟩
theorem opB0 {f : Value → Value → Sem Value} {g : Int → Int → Bool}
    (rule : ∀ (i j : Int) (t u : Tok) (s : Shared) (Q : Value → Shared → Prop) (E : Value → Shared → Prop), Q (.bool (g i j)) s → wpAny (model X.prog X.w) X.A (f (.int i t) (.int j u)) Q E s) :
    OpR X f (rI0 fun i j => .bl (g i j)) := by
  intro pins s σ H x y v u Q I rx ry h
  obtain ⟨i, j, rfl, rfl, q⟩ := h
  obtain ⟨t, rfl⟩ := rx
  obtain ⟨t', rfl⟩ := ry
  exact rule i j t t' s _ _ ⟨.bl (g i j), H, I, rfl, q⟩

def CDiv (i j : Int) : Prop := 0 < j ∧ j < 1073741824
def CDivN (i j : Int) : Prop := j ≠ 0 ∧ j.natAbs < 1073741824
def CPow (i j : Int) : Prop := 0 ≤ j ∧ j ≤ 1000000 ∧ i.natAbs < 2 ^ 64
def CMul (i j : Int) : Prop := (-(2 ^ 64) < i ∧ i < 2 ^ 64) ∨ (-(2 ^ 64) < j ∧ j < 2 ^ 64)
theorem CMul.ok {i j : Int} (h : CMul i j) : IntMulOk i j := by
  rcases h with ⟨h1, h2⟩ | ⟨h1, h2⟩
  · exact .of_left (intBits_le_64 h1 h2)
  · exact .of_right (intBits_le_64 h1 h2)
theorem two_pow_nn (k : Nat) : (0 : Int) ≤ 2 ^ k := by
  rw [two_pow_cast]
  exact Int.natCast_nonneg _

theorem op_add : OpR X (binaryOp .Add) (rI0 fun i j => .int (i + j)) := opI0 fun _ _ _ _ _ _ _ q => add_int q
theorem op_sub : OpR X (binaryOp .Sub) (rI0 fun i j => .int (i - j)) := opI0 fun _ _ _ _ _ _ _ q => sub_int q
theorem op_mul : OpR X (binaryOp .Mult) (rI CMul fun i j => .int (i * j)) := opI fun _ _ _ _ _ _ _ hc q => mul_int q hc.ok
/-- // by a positive divisor -/
theorem op_fdiv : OpR X (binaryOp .FloorDiv) (rI CDiv fun i j => .int (i / j)) := opI fun i j _ _ _ _ _ hc q => by
  have h1 : (0 : Int) < j := hc.1
  have h2 : j < 1073741824 := hc.2
  exact floordiv_int (by omega) (by rw [Int.fdiv_eq_ediv_of_nonneg i (by omega)]; exact q) (.inl (PyProof.noPylong_small (by omega)))
theorem op_fdivN : OpR X (binaryOp .FloorDiv) (rI CDivN fun i j => .int (i.fdiv j)) := opI fun _ _ _ _ _ _ _ hc q => floordiv_int hc.1 q (.inl (PyProof.noPylong_small hc.2))
/-- % by a positive divisor of any size -/
theorem op_mod : OpR X (binaryOp .Mod) (rI (fun _ j => 0 < j) fun i j => .int (i % j)) := opI fun i j _ _ _ _ _ hc q => by
  have h1 : (0 : Int) < j := hc
  exact mod_int' (by omega) (by rw [Int.fmod_eq_emod_of_nonneg i (by omega)]; exact q)
theorem op_modN : OpR X (binaryOp .Mod) (rI (fun _ j => j ≠ 0) fun i j => .int (i.fmod j)) := opI fun _ _ _ _ _ _ _ hc q => mod_int' hc q
theorem op_pow : OpR X (binaryOp .Pow) (rI CPow fun i j => .int (i ^ j.toNat)) := opI fun _ _ _ _ _ _ _ hc q => pow_int_small hc.1 hc.2.1 hc.2.2 q
theorem op_shl : OpR X (binaryOp .LShift) (rI CPow fun i j => .int (i * 2 ^ j.toNat)) := opI fun _ _ _ _ _ _ _ hc q => lshift_int_small hc.1 hc.2.1 hc.2.2 q
theorem op_shr : OpR X (binaryOp .RShift) (rI (fun _ j => 0 ≤ j) fun i j => .int (i / 2 ^ j.toNat)) := opI fun i j _ _ _ _ _ hc q =>
  rshift_int hc (by rw [Int.fdiv_eq_ediv_of_nonneg i (two_pow_nn _)]; exact q)
theorem op_and : OpR X (binaryOp .BitAnd) (rI0 fun i j => .int (Builtin.bitAnd i j)) := opI0 fun _ _ _ _ _ _ _ q => and_int q
theorem op_or : OpR X (binaryOp .BitOr) (rI0 fun i j => .int (Builtin.bitOr i j)) := opI0 fun _ _ _ _ _ _ _ q => or_int q
theorem op_xor : OpR X (binaryOp .BitXor) (rI0 fun i j => .int (Builtin.bitXor i j)) := opI0 fun _ _ _ _ _ _ _ q => xor_int q

theorem iop_add : OpR X (inplaceOp .Add) (rI0 fun i j => .int (i + j)) := opI0 fun _ _ _ _ _ _ _ q => iadd_int q
theorem iop_sub : OpR X (inplaceOp .Sub) (rI0 fun i j => .int (i - j)) := opI0 fun _ _ _ _ _ _ _ q => isub_int q
theorem iop_mul : OpR X (inplaceOp .Mult) (rI CMul fun i j => .int (i * j)) := opI fun _ _ _ _ _ _ _ hc q => imul_int q hc.ok
theorem iop_fdiv : OpR X (inplaceOp .FloorDiv) (rI CDiv fun i j => .int (i / j)) := opI fun i j _ _ _ _ _ hc q => by
  have h1 : (0 : Int) < j := hc.1
  have h2 : j < 1073741824 := hc.2
  exact ifloordiv_int (by omega) (by rw [Int.fdiv_eq_ediv_of_nonneg i (by omega)]; exact q) (.inl (PyProof.noPylong_small (by omega)))
theorem iop_mod : OpR X (inplaceOp .Mod) (rI (fun _ j => 0 < j) fun i j => .int (i % j)) := opI fun i j _ _ _ _ _ hc q => by
  have h1 : (0 : Int) < j := hc
  exact imod_int (by omega) (by rw [Int.fmod_eq_emod_of_nonneg i (by omega)]; exact q)
theorem iop_shl : OpR X (inplaceOp .LShift) (rI CPow fun i j => .int (i * 2 ^ j.toNat)) := opI fun _ _ _ _ _ _ _ hc q => ilshift_int_small hc.1 hc.2.1 hc.2.2 q
theorem iop_shr : OpR X (inplaceOp .RShift) (rI (fun _ j => 0 ≤ j) fun i j => .int (i / 2 ^ j.toNat)) := opI fun i j _ _ _ _ _ hc q =>
  irshift_int hc (by rw [Int.fdiv_eq_ediv_of_nonneg i (two_pow_nn _)]; exact q)
theorem iop_and : OpR X (inplaceOp .BitAnd) (rI0 fun i j => .int (Builtin.bitAnd i j)) := opI0 fun _ _ _ _ _ _ _ q => iand_int q
theorem iop_or : OpR X (inplaceOp .BitOr) (rI0 fun i j => .int (Builtin.bitOr i j)) := opI0 fun _ _ _ _ _ _ _ q => ior_int q
theorem iop_xor : OpR X (inplaceOp .BitXor) (rI0 fun i j => .int (Builtin.bitXor i j)) := opI0 fun _ _ _ _ _ _ _ q => ixor_int q

theorem unI {f : Value → Sem Value} {g : Int → Int}
    (rule : ∀ (i : Int) (t : Tok) (s : Shared) (Q : Value → Shared → Prop) (E : Value → Shared → Prop), Q (.int (g i) s.toks) { s with toks := s.toks + 1 } → wpAny (model X.prog X.w) X.A (f (.int i t)) Q E s) :
    UnR X f (rU fun i => .int (g i)) := by
  intro pins s σ H x v Q I rx h
  obtain ⟨i, rfl, q⟩ := h
  obtain ⟨t, rfl⟩ := rx
  exact rule i t s _ _ ⟨.int (g i), H, I.tok _, ⟨_, rfl⟩, q⟩
theorem un_neg : UnR X (unaryOp .USub) (rU fun i => .int (-i)) := unI fun _ _ _ _ _ q => neg_int q
theorem un_inv : UnR X (unaryOp .Invert) (rU fun i => .int (Builtin.bitNot i)) := unI fun _ _ _ _ _ q => invert_int q

/-! ### bools among ints: n += (a < b) -/
theorem op_add_ib : OpR X (binaryOp .Add) (fun x y H Q => ∃ i k, x = .int i ∧ y = .bl k ∧ Q (.int (i + b2i k)) H) := by
  intro pins s σ H x y v u Q I rx ry h
  obtain ⟨i, k, rfl, rfl, q⟩ := h
  obtain ⟨t, rfl⟩ := rx
  cases ry
  exact add_int_bool ⟨.int (i + b2i k), H, I.tok _, ⟨_, rfl⟩, q⟩
end

/-! ### comparisons -/
/-- the scalars that == tells apart as data does -/
def scal : V → V → Bool
  | .non, .non => true | .non, .int _ => true | .int _, .non => true | .non, .bl _ => true | .bl _, .non => true | .non, .str _ => true | .str _, .non => true
  | .int _, .int _ => true | .bl _, .bl _ => true | .str _, .str _ => true | .byt _, .byt _ => true
  | .int _, .str _ => true | .str _, .int _ => true | .bl _, .str _ => true | .str _, .bl _ => true
  | _, _ => false
def rEq : R2 := fun x y H Q => scal x y = true ∧ Q (.bl (decide (x = y))) H
def rNe : R2 := fun x y H Q => scal x y = true ∧ Q (.bl (!decide (x = y))) H

theorem dec_int {i j : Int} : decide (V.int i = V.int j) = (i == j) := by
  rw [Bool.eq_iff_iff]
  simp
theorem dec_bl {i j : Bool} : decide (V.bl i = V.bl j) = (i == j) := by
  rw [Bool.eq_iff_iff]
  simp
theorem dec_str {i j : Str} : decide (V.str i = V.str j) = (i == j) := by
  rw [Bool.eq_iff_iff]
  simp
theorem dec_byt {i j : Array UInt8} : decide (V.byt i = V.byt j) = (i.toList == j.toList) := by
  rw [Bool.eq_iff_iff]
  cases i
  cases j
  simp

section
variable {X : Cx} {a b c : Expr} {ta tb tc : TE} {pos : Pos}
theorem fin_bl {pins : List (Addr × Obj)} {σ : St} {H : Hp} {s : Shared} {Q : VK} {k k' : Bool} (I : Inv X pins σ H s) (q : Q (.bl k) H) (e : k = k') : EP X pins σ Q (.bool k') s := by
  subst e
  exact ⟨.bl k, H, I, rfl, q⟩
theorem op_eq : OpR X (compareOp .Eq) rEq := by
  intro pins s σ H x y v u Q I rx ry h
  obtain ⟨hs, q⟩ := h
  cases x with
  | non =>
    cases rx
    cases y with
    | non => cases ry; exact PySem.EqNone.eq_none_none (fin_bl I q (by simp))
    | bl j => cases ry; exact PySem.EqNone.eq_none_bool (fin_bl I q (by simp))
    | int j => obtain ⟨t', rfl⟩ := ry; exact PySem.EqNone.eq_none_int (fin_bl I q (by simp))
    | str j => obtain ⟨t', rfl⟩ := ry; exact PySem.EqNone.eq_none_str (fin_bl I q (by simp))
    | _ => exact absurd (show false = true from hs) Bool.false_ne_true
  | bl i =>
    cases rx
    cases y with
    | non => cases ry; exact PySem.EqNone.eq_bool_none (fin_bl I q (by simp))
    | bl j => cases ry; exact eq_bool (fin_bl I q dec_bl)
    | str j => obtain ⟨t', rfl⟩ := ry; exact PySem.EqMixed.eq_bool_str (fin_bl I q (by simp))
    | _ => exact absurd (show false = true from hs) Bool.false_ne_true
  | int i =>
    obtain ⟨t, rfl⟩ := rx
    cases y with
    | non => cases ry; exact PySem.EqNone.eq_int_none (fin_bl I q (by simp))
    | int j => obtain ⟨t', rfl⟩ := ry; exact eq_int (fin_bl I q dec_int)
    | str j => obtain ⟨t', rfl⟩ := ry; exact PySem.EqMixed.eq_int_str (fin_bl I q (by simp))
    | _ => exact absurd (show false = true from hs) Bool.false_ne_true
  | str i =>
    obtain ⟨t, rfl⟩ := rx
    cases y with
    | non => cases ry; exact PySem.EqNone.eq_str_none (fin_bl I q (by simp))
    | bl j => cases ry; exact PySem.EqMixed.eq_str_bool (fin_bl I q (by simp))
    | int j => obtain ⟨t', rfl⟩ := ry; exact PySem.EqMixed.eq_str_int (fin_bl I q (by simp))
    | str j => obtain ⟨t', rfl⟩ := ry; exact eq_str (fin_bl I q dec_str)
    | _ => exact absurd (show false = true from hs) Bool.false_ne_true
  | byt i =>
    obtain ⟨t, rfl⟩ := rx
    cases y with
    | byt j => obtain ⟨t', rfl⟩ := ry; exact PySem.W.eq_bytes (fin_bl I q dec_byt)
    | _ => exact absurd (show false = true from hs) Bool.false_ne_true
  | _ => cases y <;> exact absurd (show false = true from hs) Bool.false_ne_true
theorem op_ne : OpR X (compareOp .NotEq) rNe := by
  intro pins s σ H x y v u Q I rx ry h
  obtain ⟨hs, q⟩ := h
  cases x with
  | non =>
    cases rx
    cases y with
    | non => cases ry; exact PySem.EqNone.ne_none_none (fin_bl I q (by simp))
    | bl j => cases ry; exact PySem.EqNone.ne_none_bool (fin_bl I q (by simp))
    | int j => obtain ⟨t', rfl⟩ := ry; exact PySem.EqNone.ne_none_int (fin_bl I q (by simp))
    | str j => obtain ⟨t', rfl⟩ := ry; exact PySem.EqNone.ne_none_str (fin_bl I q (by simp))
    | _ => exact absurd (show false = true from hs) Bool.false_ne_true
  | bl i =>
    cases rx
    cases y with
    | non => cases ry; exact PySem.EqNone.ne_bool_none (fin_bl I q (by simp))
    | bl j => cases ry; exact ne_bool (fin_bl I q (congrArg not dec_bl))
    | str j => obtain ⟨t', rfl⟩ := ry; exact PySem.EqMixed.ne_bool_str (fin_bl I q (by simp))
    | _ => exact absurd (show false = true from hs) Bool.false_ne_true
  | int i =>
    obtain ⟨t, rfl⟩ := rx
    cases y with
    | non => cases ry; exact PySem.EqNone.ne_int_none (fin_bl I q (by simp))
    | int j => obtain ⟨t', rfl⟩ := ry; exact ne_int (fin_bl I q (congrArg not dec_int))
    | str j => obtain ⟨t', rfl⟩ := ry; exact PySem.EqMixed.ne_int_str (fin_bl I q (by simp))
    | _ => exact absurd (show false = true from hs) Bool.false_ne_true
  | str i =>
    obtain ⟨t, rfl⟩ := rx
    cases y with
    | non => cases ry; exact PySem.EqNone.ne_str_none (fin_bl I q (by simp))
    | bl j => cases ry; exact PySem.EqMixed.ne_str_bool (fin_bl I q (by simp))
    | int j => obtain ⟨t', rfl⟩ := ry; exact PySem.EqMixed.ne_str_int (fin_bl I q (by simp))
    | str j => obtain ⟨t', rfl⟩ := ry; exact ne_str (fin_bl I q (congrArg not dec_str))
    | _ => exact absurd (show false = true from hs) Bool.false_ne_true
  | byt i =>
    obtain ⟨t, rfl⟩ := rx
    cases y with
    | byt j => obtain ⟨t', rfl⟩ := ry; exact PySem.W.ne_bytes (fin_bl I q (congrArg not dec_byt))
    | _ => exact absurd (show false = true from hs) Bool.false_ne_true
  | _ => cases y <;> exact absurd (show false = true from hs) Bool.false_ne_true

theorem op_lt : OpR X (compareOp .Lt) (rI0 fun i j => .bl (decide (i < j))) := opB0 fun _ _ _ _ _ _ _ q => lt_int q
theorem op_le : OpR X (compareOp .LtE) (rI0 fun i j => .bl (decide (i ≤ j))) := opB0 fun _ _ _ _ _ _ _ q => le_int q
theorem op_gt : OpR X (compareOp .Gt) (rI0 fun i j => .bl (decide (j < i))) := opB0 fun _ _ _ _ _ _ _ q => gt_int q
theorem op_ge : OpR X (compareOp .GtE) (rI0 fun i j => .bl (decide (j ≤ i))) := opB0 fun _ _ _ _ _ _ _ q => ge_int q
theorem op_lt_str : OpR X (compareOp .Lt) (fun x y H Q => ∃ i j, x = .str i ∧ y = .str j ∧ Q (.bl (decide (i.cps.toList < j.cps.toList))) H) := by
  intro pins s σ H x y v u Q I rx ry h
  obtain ⟨i, j, rfl, rfl, q⟩ := h
  obtain ⟨t, rfl⟩ := rx
  obtain ⟨t', rfl⟩ := ry
  exact lt_str (fin_bl I q rfl)
/-- the one string within the other -/
theorem op_in_str : OpR X (compareOp .In) (fun x y H Q => ∃ i j, x = .str i ∧ y = .str j ∧ Q (.bl (!(Builtin.Str.occurrences j i 0 j.length 1).isEmpty)) H) := by
  intro pins s σ H x y v u Q I rx ry h
  obtain ⟨i, j, rfl, rfl, q⟩ := h
  obtain ⟨t, rfl⟩ := rx
  obtain ⟨t', rfl⟩ := ry
  exact in_str (fin_bl I q rfl)

/-- is None, is not None: the right side a value none -/
theorem op_isN : OpR X (compareOp .Is) (fun x y H Q => y = .non ∧ Q (.bl (decide (x = .non))) H) := by
  intro pins s σ H x y v u Q I rx ry h
  obtain ⟨rfl, q⟩ := h
  cases ry
  refine is_none_gen (fin_bl I q ?_)
  cases x <;> first
    | (cases rx; rfl)
    | (obtain ⟨t, rfl⟩ := rx; rfl)
theorem op_notN : OpR X (compareOp .IsNot) (fun x y H Q => y = .non ∧ Q (.bl (!decide (x = .non))) H) := by
  intro pins s σ H x y v u Q I rx ry h
  obtain ⟨rfl, q⟩ := h
  cases ry
  refine isnot_none_gen (fin_bl I q ?_)
  cases x <;> first
    | (cases rx; rfl)
    | (obtain ⟨t, rfl⟩ := rx; rfl)

theorem op_notin_str : OpR X (compareOp .NotIn) (fun x y H Q => ∃ i j, x = .str i ∧ y = .str j ∧ Q (.bl (!(!(Builtin.Str.occurrences j i 0 j.length 1).isEmpty))) H) := by
  intro pins s σ H x y v u Q I rx ry h
  obtain ⟨i, j, rfl, rfl, q⟩ := h
  obtain ⟨t, rfl⟩ := rx
  obtain ⟨t', rfl⟩ := ry
  exact notIn_str (fin_bl I q rfl)
/-- is, is not of two objects that are tracked lists or instances -/
def isObj : HO → Bool
  | .lst _ => true
  | .ins _ _ _ => true
  | _ => false
theorem obj_there {pins : List (Addr × Obj)} {s : Shared} {σ : St} {H : Hp} {a : Addr} {o : HO} (I : Inv X pins σ H s) (h : H a = some o) (p : isObj o = true) : ∃ ob, s.heap.get? a = some ob ∧ ob.cls ≠ .type "tuple" := by
  cases o with
  | lst xs =>
    obtain ⟨_, its, n, _, e⟩ : xs.length ≤ sizeLine ∧ ∃ (its : List Value) (n : Nat), Vals xs its ∧ s.heap.get? a = some { cls := .type "list", data := .seq its.toArray n } := I.hok a _ h
    exact ⟨_, e, (by show Value.type "list" ≠ .type "tuple"; decide +kernel)⟩
  | ins C dx fs =>
    have x := I.hok a _ h
    obtain ⟨_, _, _, e, _⟩ := x
    exact ⟨_, e, (by show Value.ref C ≠ .type "tuple"; exact fun z => by cases z)⟩
  | _ => exact absurd (show false = true from p) Bool.false_ne_true
theorem op_is_ref : OpR X (compareOp .Is) (fun x y H Q => ∃ a b oa ob, x = .ref a ∧ y = .ref b ∧ H a = some oa ∧ isObj oa = true ∧ H b = some ob ∧ isObj ob = true ∧ Q (.bl (decide (a = b))) H) := by
  intro pins s σ H x y v u Q I rx ry h
  obtain ⟨a, b, oa, ob, rfl, rfl, ha, pa, hb, pb, q⟩ := h
  cases rx
  cases ry
  obtain ⟨o1, e1, n1⟩ := obj_there I ha pa
  obtain ⟨o2, e2, _⟩ := obj_there I hb pb
  by_cases z : a = b
  · subst z
    exact wpAny_is_ref_self (fin_bl I q (by simp))
  · exact wpAny_is_ref_other z e1 e2 n1 (fin_bl I q (by simp [z]))
theorem op_isnot_ref : OpR X (compareOp .IsNot) (fun x y H Q => ∃ a b oa ob, x = .ref a ∧ y = .ref b ∧ H a = some oa ∧ isObj oa = true ∧ H b = some ob ∧ isObj ob = true ∧ Q (.bl (!decide (a = b))) H) := by
  intro pins s σ H x y v u Q I rx ry h
  obtain ⟨a, b, oa, ob, rfl, rfl, ha, pa, hb, pb, q⟩ := h
  cases rx
  cases ry
  obtain ⟨o1, e1, n1⟩ := obj_there I ha pa
  obtain ⟨o2, e2, _⟩ := obj_there I hb pb
  by_cases z : a = b
  · subst z
    exact wpAny_isNot_ref_self (fin_bl I q (by simp))
  · exact wpAny_isNot_ref_other z e1 e2 n1 (fin_bl I q (by simp [z]))

/-- two rules for one operation: by cases -/
theorem OpR.or {f : Value → Value → Sem Value} {r r' : R2} (h : OpR X f r) (h' : OpR X f r') : OpR X f (fun x y H Q => r x y H Q ∨ r' x y H Q) := by
  intro pins s σ H x y v u Q I rx ry q
  rcases q with q | q
  · exact h pins s σ H x y v u Q I rx ry q
  · exact h' pins s σ H x y v u Q I rx ry q

theorem nomark (b : Expr) {op : CmpOp} (h : op ≠ .In := by decide) (h2 : op ≠ .NotIn := by decide) : behindInMarks op b = false := by
  have e1 : (op == CmpOp.In) = false := by cases op <;> first | rfl | exact absurd rfl h
  have e2 : (op == CmpOp.NotIn) = false := by cases op <;> first | rfl | exact absurd rfl h2
  cases b <;> simp [behindInMarks, e1, e2]
/-- a comparison as a value; hm: nomark b, or (for in, not in) by with_unfolding_all rfl -/
theorem pe_cmpR {op : CmpOp} {r : R2} (ho : OpR X (compareOp op) r) (ha : PE X a ta) (hb : PE X b tb) (hm : behindInMarks op b = false) : PE X (.Compare a [op] [b] pos) (tOp r ta tb) := by
  intro pins s σ H Q I h
  exact wpAny_Compare1 (binT ha hb I h fun v u s2 x y H2 I2 rx ry q => ho pins s2 σ H2 x y v u Q I2 rx ry q) hm
/-- a reading of a value as a test -/
def tTest (t : TE) : TT := fun σ H Q => t σ H fun x H' => ∃ k, x = .bl k ∧ Q k H'
theorem pt_cmpR {op : CmpOp} {r : R2} (ho : OpR X (compareOp op) r) (ha : PE X a ta) (hb : PE X b tb) (hm : behindInMarks op b = false) : PT X (.Compare a [op] [b] pos) (tTest (tOp r ta tb)) := by
  intro pins s σ H Q I h
  refine wpAny_isTrue_Compare1 (thn (ha pins s σ H _ I h) fun v s1 ⟨x, H1, I1, r1, q1⟩ => thn (hb pins s1 σ H1 _ I1 q1) fun u s2 ⟨y, H2, I2, r2, q2⟩ =>
    thn (ho pins s2 σ H2 x y v u _ I2 r1 r2 q2) fun c s3 ⟨z, H3, I3, r3, k, e, q3⟩ => ?_) hm
  subst e
  cases r3
  exact wpAny_truthy_bool ⟨H3, I3, q3⟩
/-- a op1 b op2 c -/
def tChain (r r' : R2) (ta tb tc : TE) : TE := fun σ H Q => ta σ H fun x H1 => tb σ H1 fun y H2 => r x y H2 fun z H3 => ∃ k, z = .bl k ∧
  (if k = true then tc σ H3 fun w' H4 => r' y w' H4 Q else Q (.bl false) H3)
theorem pe_chain {op op' : CmpOp} {r r' : R2} (ho : OpR X (compareOp op) r) (ho' : OpR X (compareOp op') r') (ha : PE X a ta) (hb : PE X b tb) (hc : PE X c tc)
    (hm : lastMarks [op, op'] [b, c] = false := by with_unfolding_all rfl) : PE X (.Compare a [op, op'] [b, c] pos) (tChain r r' ta tb tc) := by
  intro pins s σ H Q I h
  refine Compare_chain (thn (ha pins s σ H _ I h) fun v s1 ⟨x, H1, I1, r1, q1⟩ => chain_link (thn (hb pins s1 σ H1 _ I1 q1) fun u s2 ⟨y, H2, I2, r2, q2⟩ =>
    thn (ho pins s2 σ H2 x y v u _ I2 r1 r2 q2) fun d s3 ⟨z, H3, I3, r3, k, e, q3⟩ => ?_)) hm
  subst e
  cases r3
  refine wpAny_truthy_bool ?_
  cases k with
  | false => exact ite_ff ⟨.bl false, H3, I3, rfl, q3⟩
  | true => exact ite_tt (chain_last (thn (hc pins s3 σ H3 _ I3 q3) fun w' s4 ⟨z', H4, I4, r4, q4⟩ => ho' pins s4 σ H4 y z' u w' Q I4 r2 r4 q4))
theorem pt_chain {op op' : CmpOp} {r r' : R2} (ho : OpR X (compareOp op) r) (ho' : OpR X (compareOp op') r') (ha : PE X a ta) (hb : PE X b tb) (hc : PE X c tc)
    (hm : lastMarks [op, op'] [b, c] = false := by with_unfolding_all rfl) : PT X (.Compare a [op, op'] [b, c] pos) (tTest (tChain r r' ta tb tc)) := by
  intro pins s σ H Q I h
  refine isTrue_chain (thn (ha pins s σ H _ I h) fun v s1 ⟨x, H1, I1, r1, q1⟩ => test_link (thn (hb pins s1 σ H1 _ I1 q1) fun u s2 ⟨y, H2, I2, r2, q2⟩ =>
    thn (ho pins s2 σ H2 x y v u _ I2 r1 r2 q2) fun d s3 ⟨z, H3, I3, r3, k, e, q3⟩ => ?_)) hm
  subst e
  cases r3
  refine wpAny_truthy_bool ?_
  cases k with
  | false =>
    obtain ⟨k', e', q'⟩ := q3
    cases e'
    exact ite_ff ⟨H3, I3, q'⟩
  | true =>
    refine ite_tt (test_last (thn (hc pins s3 σ H3 _ I3 q3) fun w' s4 ⟨z', H4, I4, r4, q4⟩ => thn (ho' pins s4 σ H4 y z' u w' _ I4 r2 r4 q4) fun d' s5 ⟨z2, H5, I5, r5, k2, e2, q5⟩ => ?_))
    subst e2
    cases r5
    exact wpAny_truthy_bool ⟨H5, I5, q5⟩

/-! ### truth -/
/-- a value's truth by the abstract heap -/
def TruV (K : PySem.W.Frag) (x : V) (H : Hp) (k : Bool) : Prop :=
  match x with
  | .non => k = false
  | .bl b => k = b
  | .int i => k = (i != 0)
  | .str y => y.length ≤ sizeLine ∧ k = ((y.length : Int) != 0)
  | .byt y => y.size ≤ sizeLine ∧ k = ((y.size : Int) != 0)
  | .ref p => (∃ xs, SqL K H p xs ∧ k = !xs.isEmpty) ∨ (∃ xs, SqT K H p xs ∧ k = !xs.isEmpty) ∨ ∃ kvs, H p = some (.dK kvs) ∧ k = !kvs.isEmpty
  | _ => False
theorem isEmpty_kv {κ : Type} {kvs : List (κ × V)} {vs : List (κ × Value)} (r : KV kvs vs) : (!vs.isEmpty) = !kvs.isEmpty := by
  cases r <;> rfl
theorem isEmpty_of {xs : List V} {its : List Value} (r : Vals xs its) : (!its.toArray.isEmpty) = !xs.isEmpty := by
  cases r <;> simp
theorem line63 : (sizeLine : Nat) < 2 ^ 63 := by rw [sizeLine_eq]; decide
theorem tru_ok : TruR X (fun x H Q => ∃ k, TruV X.K x H k ∧ Q k H) := by
  intro pins s σ H x v Q I rx h
  obtain ⟨k, e, q⟩ := h
  have hl := line63
  have hs : sizeLine = 16777216 := sizeLine_eq
  cases x with
  | non =>
    cases rx
    have e' : k = false := e
    subst e'
    exact truthy_none ⟨H, I, q⟩
  | bl b =>
    cases rx
    have e' : k = b := e
    subst e'
    exact wpAny_truthy_bool ⟨H, I, q⟩
  | int i =>
    obtain ⟨t, rfl⟩ := rx
    have e' : k = (i != 0) := e
    subst e'
    exact PySem.P.truthy_int ⟨H, I, q⟩
  | str y =>
    obtain ⟨t, rfl⟩ := rx
    obtain ⟨hy, e'⟩ : y.length ≤ sizeLine ∧ k = ((y.length : Int) != 0) := e
    subst e'
    exact PySem.P.truthy_str (by omega) ⟨H, I.tok _, q⟩
  | byt y =>
    obtain ⟨t, rfl⟩ := rx
    obtain ⟨hy, e'⟩ : y.size ≤ sizeLine ∧ k = ((y.size : Int) != 0) := e
    subst e'
    exact PySem.W.truthy_bytes (by omega) ⟨H, I.tok _, q⟩
  | ref p =>
    cases rx
    have e' : (∃ xs, SqL X.K H p xs ∧ k = !xs.isEmpty) ∨ (∃ xs, SqT X.K H p xs ∧ k = !xs.isEmpty) ∨ ∃ kvs, H p = some (.dK kvs) ∧ k = !kvs.isEmpty := e
    rcases e' with ⟨xs, hx, e'⟩ | ⟨xs, hx, e'⟩ | ⟨kvs, hx, e'⟩
    · subst e'
      obtain ⟨its, r, pl, hz⟩ := I.list hx
      have hlen := r.length
      exact wpAny_truthy_list pl.isList (by simp only [List.size_toArray]; omega) ⟨H, I.tok _, by rw [isEmpty_of r]; exact q⟩
    · subst e'
      obtain ⟨its, r, pl, hz⟩ := I.tuple hx
      have hlen := r.length
      exact truthy_tuple pl (by simp only [List.size_toArray]; omega) ⟨H, I.tok _, by rw [isEmpty_of r]; exact q⟩
    · subst e'
      obtain ⟨hz, hS, vs, r, m⟩ : kvs.length ≤ sizeLine ∧ (p == sysModules) = false ∧ ∃ vs, KV kvs vs ∧ s.heap.DictOf (mixKind X.prog X.w) p vs := I.hok p _ hx
      have hlen : kvs.length = vs.length := Paired.length r
      exact wpAny_truthy_dict hS m (by omega) ⟨H, I.tok _, by rw [isEmpty_kv r]; exact q⟩
  | _ => exact (show False from e).elim
/-- any expression whose test is its value's truth (a name, a call, a subscript, a field ..: he by fun _ => rfl) -/
theorem pt_truth (ha : PE X a ta) (he : ∀ whole, isTrue a X.env whole = (do let v ← whole; standAt a.pos; holding [v] (truthy v))) :
    PT X a (fun σ H Q => ta σ H fun x H' => ∃ k, TruV X.K x H' k ∧ Q k H') := by
  intro pins s σ H Q I h
  exact isTrue_plain (thn (ha pins s σ H _ I h) fun v s1 ⟨x, H1, I1, r1, q1⟩ => tru_ok pins s1 σ H1 x v Q I1 r1 q1) (he _)

/-! ### strs and bytes -/
theorem pe_byt {x : List UInt8} {k : Nat} : PE X (.Constant (.bytes x) k pos) (fun _ H Q => Q (.byt x.toArray) H) := fun _ _ _ H _ I h => PySem.W.Constant_bytes ⟨.byt x.toArray, H, I.tok _, ⟨_, rfl⟩, h⟩
theorem op_add_str : OpR X (binaryOp .Add) (fun x y H Q => ∃ i j, x = .str i ∧ y = .str j ∧ i.length + j.length ≤ sizeLine ∧ Q (.str (i ++ j)) H) := by
  intro pins s σ H x y v u Q I rx ry h
  obtain ⟨i, j, rfl, rfl, hz, q⟩ := h
  obtain ⟨t, rfl⟩ := rx
  obtain ⟨t', rfl⟩ := ry
  exact add_str (fun t' tk => ⟨.str (i ++ j), H, I.tok _, ⟨_, rfl⟩, q⟩) hz
theorem iop_add_str : OpR X (inplaceOp .Add) (fun x y H Q => ∃ i j, x = .str i ∧ y = .str j ∧ i.length + j.length ≤ sizeLine ∧ Q (.str (i ++ j)) H) := by
  intro pins s σ H x y v u Q I rx ry h
  obtain ⟨i, j, rfl, rfl, hz, q⟩ := h
  obtain ⟨t, rfl⟩ := rx
  obtain ⟨t', rfl⟩ := ry
  exact iadd_str (fun t' tk => ⟨.str (i ++ j), H, I.tok _, ⟨_, rfl⟩, q⟩) hz
theorem op_add_byt : OpR X (binaryOp .Add) (fun x y H Q => ∃ i j, x = .byt i ∧ y = .byt j ∧ i.size + j.size ≤ 16777216 ∧ Q (.byt (i ++ j)) H) := by
  intro pins s σ H x y v u Q I rx ry h
  obtain ⟨i, j, rfl, rfl, hz, q⟩ := h
  obtain ⟨t, rfl⟩ := rx
  obtain ⟨t', rfl⟩ := ry
  exact PySem.W.KBy.add_bytes hz (fun t' tk => ⟨.byt (i ++ j), H, I.tok _, ⟨_, rfl⟩, q⟩)

def PlainIxT (b : Expr) : Prop := ∀ o i, subscripted b false o i = operate [o, i] (getItem o i)
/-- s[i], 0 ≤ i < len -/
theorem pe_item_str (ha : PE X a ta) (hb : PE X b tb) (hs : PlainIxT b) :
    PE X (.Subscript a b pos) (tOp (fun x y H Q => ∃ z i c, x = .str z ∧ y = .int i ∧ 0 ≤ i ∧ i < 2 ^ 63 ∧ i < z.length ∧ z.cps[i.toNat]? = some c ∧ Q (.str ⟨#[c]⟩) H) ta tb) := by
  intro pins s σ H Q I h
  refine Subscript_ (binT ha hb I h fun v u s2 x y H2 I2 rx ry q => ?_)
  obtain ⟨z, i, c, rfl, rfl, h0, h63, h1, hc, q⟩ := q
  obtain ⟨t, rfl⟩ := rx
  obtain ⟨t', rfl⟩ := ry
  have e : seqIndex? i z.length = some i.toNat := PySem.StrLaws.seqIndex_nonneg h0 h1
  exact tail_any (typeIs_str s2 z t) slot_str_getitem.lookup (getItem_str (c := c) (by
    have e1 : decide (i < -(2 ^ 63 : Int)) = false := decide_eq_false (by omega)
    have e2 : decide (i ≥ 2 ^ 63) = false := decide_eq_false (by omega)
    rw [e1, e2] <;> rfl) (by rw [e]; exact hc) ⟨.str ⟨#[c]⟩, H2, I2.tok _, ⟨_, rfl⟩, q⟩) (hs _ _)
/-- b[i], 0 ≤ i < len -/
theorem pe_item_byt (ha : PE X a ta) (hb : PE X b tb) (hs : PlainIxT b) :
    PE X (.Subscript a b pos) (tOp (fun x y H Q => ∃ (z : List UInt8) (i : Int), x = .byt z.toArray ∧ y = .int i ∧ z.length ≤ sizeLine ∧ 0 ≤ i ∧ i < z.length ∧ Q (.int ((z.getD i.toNat 0).toNat : Nat)) H) ta tb) := by
  intro pins s σ H Q I h
  refine Subscript_ (binT ha hb I h fun v u s2 x y H2 I2 rx ry q => ?_)
  obtain ⟨z, i, rfl, rfl, hz, h0, h1, q⟩ := q
  obtain ⟨t, rfl⟩ := rx
  obtain ⟨t', rfl⟩ := ry
  have hl : sizeLine = 16777216 := sizeLine_eq
  exact tail_any (PySem.W.typeIs_bytes s2 z.toArray t) PySem.W.FB.slot_bytes_getitem.lookup (PySem.W.getItem_bytes (by omega) h0 h1 ⟨.int ((z.getD i.toNat 0).toNat : Nat), H2, I2.tok _, ⟨_, rfl⟩, q⟩) (hs _ _)

/-! ### scalar builtins, by CallR -/
theorem vals1 {x : V} {us : List Value} (r : Vals [x] us) : ∃ u, us = [u] ∧ RelV x u := by
  cases r with
  | cons r1 r2 => cases r2; exact ⟨_, rfl, r1⟩
theorem vals2 {x y : V} {us : List Value} (r : Vals [x, y] us) : ∃ u w', us = [u, w'] ∧ RelV x u ∧ RelV y w' := by
  cases r with
  | cons r1 r2 =>
    cases r2 with
    | cons r3 r4 => cases r4; exact ⟨_, _, rfl, r1, r3⟩
theorem call_abs : CallR X (.builtin "abs") (fun xs H Q => ∃ i, xs = [.int i] ∧ Q (.int (if i < 0 then -i else i)) H) := by
  intro pins s σ H xs us Q I r h
  obtain ⟨i, rfl, q⟩ := h
  obtain ⟨u, rfl, t, rfl⟩ := vals1 r
  exact call_abs_int fun u tk => ⟨.int (if i < 0 then -i else i), H, I.tok _, ⟨_, rfl⟩, q⟩
theorem call_max2 (hc : X.calm = true) : CallR X (.builtin "max") (fun xs H Q => ∃ i j, xs = [.int i, .int j] ∧ Q (.int (if j > i then j else i)) H) := by
  intro pins s σ H xs us Q I r h
  obtain ⟨i, j, rfl, q⟩ := h
  obtain ⟨u, w', rfl, ⟨t, rfl⟩, ⟨t', rfl⟩⟩ := vals2 r
  refine max_two_ints (I.ok.hd hc) fun h' tk k => ⟨_, H, I.kept k, ?_, q⟩
  by_cases hj : j > i
  · rw [if_pos hj, if_pos hj]; exact ⟨_, rfl⟩
  · rw [if_neg hj, if_neg hj]; exact ⟨_, rfl⟩
theorem call_min2 (hc : X.calm = true) : CallR X (.builtin "min") (fun xs H Q => ∃ i j, xs = [.int i, .int j] ∧ Q (.int (if j < i then j else i)) H) := by
  intro pins s σ H xs us Q I r h
  obtain ⟨i, j, rfl, q⟩ := h
  obtain ⟨u, w', rfl, ⟨t, rfl⟩, ⟨t', rfl⟩⟩ := vals2 r
  refine min_two_ints (I.ok.hd hc) fun h' tk k => ⟨_, H, I.kept k, ?_, q⟩
  by_cases hj : j < i
  · rw [if_pos hj, if_pos hj]; exact ⟨_, rfl⟩
  · rw [if_neg hj, if_neg hj]; exact ⟨_, rfl⟩
theorem call_int1 : CallR X (.type "int") (fun xs H Q => (∃ i, xs = [.int i] ∧ Q (.int i) H) ∨ ∃ k, xs = [.bl k] ∧ Q (.int (if k then 1 else 0)) H) := by
  intro pins s σ H xs us Q I r h
  rcases h with ⟨i, rfl, q⟩ | ⟨k, rfl, q⟩
  · obtain ⟨u, rfl, t, rfl⟩ := vals1 r
    exact call_int_int ⟨.int i, H, I, ⟨_, rfl⟩, q⟩
  · obtain ⟨u, rfl, r1⟩ := vals1 r
    cases r1
    exact call_int_bool ⟨.int (if k then 1 else 0), H, I.tok _, ⟨_, rfl⟩, q⟩
theorem call_bool1 : CallR X (.type "bool") (fun xs H Q => (∃ i, xs = [.int i] ∧ Q (.bl (i != 0)) H) ∨ ∃ k, xs = [.bl k] ∧ Q (.bl k) H) := by
  intro pins s σ H xs us Q I r h
  rcases h with ⟨i, rfl, q⟩ | ⟨k, rfl, q⟩
  · obtain ⟨u, rfl, t, rfl⟩ := vals1 r
    exact call_bool_int ⟨.bl (i != 0), H, I, rfl, q⟩
  · obtain ⟨u, rfl, r1⟩ := vals1 r
    cases r1
    exact call_bool_bool ⟨.bl k, H, I, rfl, q⟩
theorem call_str_int : CallR X (.type "str") (fun xs H Q => ∃ i, xs = [.int i] ∧ i.natAbs.log2 < 1920 ∧ Q (.str (toString i)) H) := by
  intro pins s σ H xs us Q I r h
  obtain ⟨i, rfl, hz, q⟩ := h
  obtain ⟨u, rfl, t, rfl⟩ := vals1 r
  exact PySem.P.str_of_int hz ⟨.str _, H, I.tok _, ⟨_, rfl⟩, q⟩
theorem call_ord : CallR X (.builtin "ord") (fun xs H Q => ∃ x, xs = [.str x] ∧ x.length = 1 ∧ Q (.int (x.cps.getD 0 0 : Nat)) H) := by
  intro pins s σ H xs us Q I r h
  obtain ⟨x, rfl, hz, q⟩ := h
  obtain ⟨u, rfl, t, rfl⟩ := vals1 r
  exact ord_of_one hz ⟨.int _, H, I.tok _, ⟨_, rfl⟩, q⟩
theorem call_chr : CallR X (.builtin "chr") (fun xs H Q => ∃ i, xs = [.int i] ∧ 0 ≤ i ∧ i ≤ 1114111 ∧ Q (.str ⟨#[i.toNat]⟩) H) := by
  intro pins s σ H xs us Q I r h
  obtain ⟨i, rfl, h0, h1, q⟩ := h
  obtain ⟨u, rfl, t, rfl⟩ := vals1 r
  exact chr_of_range h0 h1 ⟨.str _, H, I.tok _, ⟨_, rfl⟩, q⟩
/-- len of a str, a bytes, a list, a tuple -/
def LenV (K : PySem.W.Frag) (x : V) (H : Hp) (n : Nat) : Prop :=
  match x with
  | .str y => y.length ≤ sizeLine ∧ n = y.length
  | .byt y => y.size ≤ sizeLine ∧ n = y.size
  | .ref p => (∃ xs, SqL K H p xs ∧ n = xs.length) ∨ ∃ xs, SqT K H p xs ∧ n = xs.length
  | _ => False
theorem call_len : CallR X (.builtin "len") (fun xs H Q => ∃ x n, xs = [x] ∧ LenV X.K x H n ∧ Q (.int n) H) := by
  intro pins s σ H xs us Q I r h
  obtain ⟨x, n, rfl, e, q⟩ := h
  obtain ⟨u, rfl, rx⟩ := vals1 r
  have hl := line63
  have hs : sizeLine = 16777216 := sizeLine_eq
  cases x with
  | str y =>
    obtain ⟨t, rfl⟩ := rx
    obtain ⟨hy, e'⟩ : y.length ≤ sizeLine ∧ n = y.length := e
    subst e'
    exact len_str (by omega) ⟨.int _, H, I.tok _, ⟨_, rfl⟩, q⟩
  | byt y =>
    obtain ⟨t, rfl⟩ := rx
    obtain ⟨hy, e'⟩ : y.size ≤ sizeLine ∧ n = y.size := e
    subst e'
    exact PySem.W.len_bytes (by omega) ⟨.int _, H, I.tok _, ⟨_, rfl⟩, q⟩
  | ref p =>
    cases rx
    have e' : (∃ xs, SqL X.K H p xs ∧ n = xs.length) ∨ ∃ xs, SqT X.K H p xs ∧ n = xs.length := e
    rcases e' with ⟨xs, hx, e'⟩ | ⟨xs, hx, e'⟩
    · subst e'
      obtain ⟨its, r', pl, hz⟩ := I.list hx
      have hlen := r'.length
      exact Calls.call_len_list pl.isList (by simp only [List.size_toArray]; omega) ⟨.int xs.length, H, I.tok _, ⟨_, by simp only [List.size_toArray]; rw [hlen]⟩, q⟩
    · subst e'
      obtain ⟨its, r', pl, hz⟩ := I.tuple hx
      have hlen := r'.length
      exact len_tuple pl (by simp only [List.size_toArray]; omega) ⟨.int xs.length, H, I.tok _, ⟨_, by simp only [List.size_toArray]; rw [hlen]⟩, q⟩
  | _ => exact (show False from e).elim
/-- divmod: a new tuple -/
theorem call_divmod : CallR X (.builtin "divmod") (fun xs H Q => ∃ i j, xs = [.int i, .int j] ∧ CDiv i j ∧ ∀ p, H p = none → Q (.ref p) (upd H p (.tup [.int (i / j), .int (i % j)]))) := by
  intro pins s σ H xs us Q I r h
  obtain ⟨i, j, rfl, ⟨h1, h2⟩, q⟩ := h
  obtain ⟨u, w', rfl, ⟨t, rfl⟩, ⟨t', rfl⟩⟩ := vals2 r
  refine divmod_int (by omega) ?_ (.inl (PyProof.noPylong_small (by omega)))
  rw [Int.fdiv_eq_ediv_of_nonneg i (by omega), Int.fmod_eq_emod_of_nonneg i (by omega)]
  have hn : H s.heap.objs.size = none := I.hok.fresh (Nat.le_refl _)
  refine ⟨.ref s.heap.objs.size, _, ?_, rfl, q _ hn⟩
  refine I.laid (fun b o e => Heap.get?_push_of_some _ e) (Nat.le_refl _) ⟨by simp only [List.length_cons, List.length_nil]; rw [sizeLine_eq]; decide, [.int (i / j) s.toks, .int (i % j) (s.toks + 1)], .cons ⟨_, rfl⟩ (.cons ⟨_, rfl⟩ .nil), ?_⟩
  exact ⟨_, Heap.get?_push_size s.heap rfl, rfl, 0, rfl⟩
end
end L2

namespace L2
open PySem PySem.Spec PyProof.Rows

/-! ### an instance, its attributes a map -/
structure ObjM (h : Heap) (x dx C : Addr) (mA : Str → Option Value) : Prop where
  obj : h.get? x = some (PySem.W.instObj C dx)
  ns : h.Ns1 dx mA
  ne : dx ≠ x

theorem lookIn_ns {h : Heap} {dx : Addr} {mA : Str → Option Value} (n : h.Ns1 dx mA) : ∃ od, h.get? dx = some od ∧ ∀ name, PySem.W.lookIn name od = some (mA name) := by
  obtain ⟨o, es, ep, ho, hd, hk, _, hm⟩ := n
  refine ⟨o, ho, fun name => ?_⟩
  have e := hm name
  unfold nsFind findBy at e
  rw [← Array.find?_toList] at e
  unfold PySem.W.lookIn
  rw [hd]
  dsimp only
  split
  · rename_i y q
    rw [q] at e
    exact congrArg some e
  · rename_i q
    rw [q] at e
    have a : es.toList.any (·.refKey) = false := by
      rw [List.any_eq_false]
      intro y hy
      obtain ⟨z, t, hkey⟩ := hk y (Array.mem_toList_iff.mp hy)
      simp [DictEntry.refKey, hkey]
    have a' : ¬ es.toList.any (·.refKey) = true := by rw [a]; exact Bool.false_ne_true
    rw [if_neg a']
    exact congrArg some e

theorem ObjM.look {h : Heap} {x dx C : Addr} {mA : Str → Option Value} (I : ObjM h x dx C mA) : ∃ od, PySem.W.InstAt h x (PySem.W.instObj C dx) C (some od) ∧ ∀ name, PySem.W.lookIn name od = some (mA name) :=
  let ⟨od, ho, hl⟩ := lookIn_ns I.ns
  ⟨od, ⟨I.obj, rfl, rfl, ho⟩, hl⟩

section
variable {prog : Program} {w : World} {A : Around} {E : Value → Shared → Prop} {s : Shared} {K : PySem.W.Frag} {x dx C f : Addr} {mA : Str → Option Value} {name : Str} {v : Value}

theorem get_map {expr : Bool} {Q : Value → Shared → Prop} (X : K.In s.heap) (I : ObjM s.heap x dx C mA) (hg : PySem.W.plainGet K C name = true) (hh : PySem.W.hasDictIn K C = true)
    (ha : PySem.W.findIn K (.ref C) name = some none) (hv : mA name = some v) (hv' : PySem.W.handedIn v = true) (h : Q v { s with toks := s.toks + 1 }) :
    wpAny (model prog w) A (getAttr (.ref x) name expr) Q E s := by
  obtain ⟨od, J, hl⟩ := I.look
  exact PySem.W.get_value X J (PySem.W.plainGet_of hg).1 (PySem.W.findObj_own hh ha rfl (by rw [hl, hv])) hv' h

theorem get_const {expr : Bool} {a : Value} {Q : Value → Shared → Prop} (X : K.In s.heap) (I : ObjM s.heap x dx C mA) (hg : PySem.W.plainGet K C name = true) (hh : PySem.W.hasDictIn K C = true)
    (ha : PySem.W.findIn K (.ref C) name = some (some a)) (hn : PySem.W.specialIn K a "__get__" = some none) (hc : PySem.W.copiedNames.contains name = false) (hv : mA name = none) (hv' : PySem.W.handedIn a = true)
    (h : Q a { s with toks := s.toks + 1 }) : wpAny (model prog w) A (getAttr (.ref x) name expr) Q E s := by
  obtain ⟨od, J, hl⟩ := I.look
  exact PySem.W.get_value X J (PySem.W.plainGet_of hg).1 (PySem.W.findObj_cls hh ha hn hv' hc (by rw [hl, hv])) hv' h

theorem get_meth {pl : Sem Bool} {Q : Value × List Value → Shared → Prop} (X : K.In s.heap) (I : ObjM s.heap x dx C mA) (hg : PySem.W.plainGet K C name = true)
    (hf : PySem.W.findIn K (.ref C) name = some (some (.ref f))) (ht : PySem.W.isFn K (.ref f) = true) (hv : mA name = none) (h : Q (.ref f, [.ref x]) s) :
    wpAny (model prog w) A (getMethod (.ref x) name pl) Q E s := by
  obtain ⟨od, J, hl⟩ := I.look
  exact PySem.W.method_fn X J (PySem.W.plainGet_of hg).1 (PySem.W.plainGet_of hg).2 hf (beq_iff_eq.mp ht) (by show (PySem.W.lookIn name od).map (·.isSome) = some false; rw [hl, hv]; rfl) h

theorem set_map {ns : List Str} {Q : Unit → Shared → Prop} (X : K.In s.heap) (I : ObjM s.heap x dx C mA)
    (hs : PySem.W.findIn K (.ref C) "__setattr__" = some (some (.builtin "object.__setattr__"))) (hp : PySem.W.plainOver K C = true) (ht : PySem.W.takerIn K C name = some none) (hh : PySem.W.hasDictIn K C = true)
    (hw : PySem.Within mA ns) (hsz : ns.length ≤ sizeLine)
    (h : ∀ h', ObjM h' x dx C (fun y => if y = name then some v else mA y) → Heap.SameBut dx s.heap h' → Q () { s with heap := h', toks := s.toks + 2 }) :
    wpAny (model prog w) A (setAttr (.ref x) name v) Q E s := by
  obtain ⟨od, J, hl⟩ := I.look
  refine PySem.W.set_plain X J hs (PySem.W.osa_open (s := { s with toks := s.toks + 1 }) (r := none) X J hp ht fun b => ?_)
  obtain ⟨cd, hc, hd'⟩ := PySem.W.any_some hh
  have hx : s.heap.get? x = some ⟨.ref C, some dx, .plain, #[]⟩ := I.obj
  refine wpAny_bind (wpAny_pure (wpAny_bind (wpAny_bind (wpAny_loadPart hx (wpAny_bind (PySem.W.Looks.here (s := { s with toks := s.toks + 1 }) (PySem.W.looks_clsIn X hc) ?_))))))
  rw [hd']
  refine wpAny_pure (a := some dx) (wpAny_bind (wpAny_pure (wpAny_bind ?_)))
  refine wpAny_nsSet1 (s := { s with toks := s.toks + 1 }) I.ns fun h' hn2 hs2 => ?_
  obtain ⟨oD, esD, epD, hoD, hdD, hcD⟩ := hn2.count (PySem.Within.cons name v hw)
  refine wpAny_bind (wpAny_lookBehind hoD (by rw [hdD]; exact pastItsLine_dict (Nat.le_trans hcD (by rw [List.length_cons]; omega))) ?_)
  exact wpAny_pure (h _ ⟨(hs2.2 _ (Ne.symm I.ne)).trans I.obj, hn2, I.ne⟩ hs2)

/-- C(..): the dict at the heap's end, the instance behind it; then its __init__ -/
theorem make_map {R : Result → Shared → Prop} {vs : List Value} {kw : List (Str × Value)} (X : K.In s.heap) (hm : PySem.W.makesIn K C = true)
    (hi : PySem.W.findIn K (.ref C) "__init__" = some (some (.ref f))) (hf : PySem.W.typeIn K (.ref f) = some (.type "function"))
    (h : codeAny (model prog w) (A.under (.builtin "type.__call__" ⟨.ref C :: vs, kw⟩)) (.call (.ref f) ⟨.ref (s.heap.objs.size + 1) :: vs, kw⟩) (PySem.W.InitBack (s.heap.objs.size + 1) R)
      { s with heap := (s.heap.push PySem.W.emptyDict).push (PySem.W.instObj C s.heap.objs.size) }) :
    codeAny (model prog w) A (.call (.ref C) ⟨vs, kw⟩) R s := by
  obtain ⟨hh, g, d, t, os⟩ := s
  exact PySem.W.make_core (PySem.W.makes_of X hm) (PySem.W.looks_findIn X hi) (fun self => PySem.W.bind_fn X self hf) (.inl rfl) h
/-- C() where there is no __init__ but object's -/
theorem make_map0 {R : Result → Shared → Prop} (X : K.In s.heap) (hm : PySem.W.makesIn K C = true)
    (hi : PySem.W.findIn K (.ref C) "__init__" = some (some (.builtin "object.__init__")))
    (hb : ∀ self, PySem.W.Looks (model prog w) s.heap (bindSpecial (.builtin "object.__init__") self) (.builtin "object.__init__", [self]))
    (h : codeAny (model prog w) (A.under (.builtin "type.__call__" ⟨[.ref C], []⟩)) (.call (.builtin "object.__init__") ⟨[.ref (s.heap.objs.size + 1)], []⟩) (PySem.W.InitBack (s.heap.objs.size + 1) R)
      { s with heap := (s.heap.push PySem.W.emptyDict).push (PySem.W.instObj C s.heap.objs.size) }) :
    codeAny (model prog w) A (.call (.ref C) ⟨[], []⟩) R s := by
  obtain ⟨hh, g, d, t, os⟩ := s
  exact PySem.W.make_core (PySem.W.makes_of X hm) (PySem.W.looks_findIn X hi) hb (.inr ⟨rfl, rfl⟩) h
end

/-! ### the attributes as a list of pairs -/
def putF (f : Str) (v : V) : List (Str × V) → List (Str × V)
  | [] => [(f, v)]
  | (g, x) :: r => if g = f then (g, v) :: r else (g, x) :: putF f v r
theorem lookup_putF (f g : Str) (v : V) : ∀ fs : List (Str × V), (putF f v fs).lookup g = if g = f then some v else fs.lookup g
  | [] => by
    show List.lookup g [(f, v)] = _
    by_cases h : g = f
    · have hb : (g == f) = true := beq_iff_eq.mpr h
      simp only [List.lookup, hb, if_pos h]
    · have hb : (g == f) = false := beq_eq_false_iff_ne.mpr h
      simp only [List.lookup, hb, if_neg h]
  | (k, x) :: r => by
    have ih := lookup_putF f g v r
    rw [show putF f v ((k, x) :: r) = (if k = f then (k, v) :: r else (k, x) :: putF f v r) from rfl]
    by_cases hk : k = f
    · rw [if_pos hk]
      by_cases h : g = k
      · have hb : (g == k) = true := beq_iff_eq.mpr h
        simp only [List.lookup, hb, if_pos (h.trans hk)]
      · have hb : (g == k) = false := beq_eq_false_iff_ne.mpr h
        simp only [List.lookup, hb, if_neg (fun e : g = f => h (e.trans hk.symm))]
    · rw [if_neg hk]
      by_cases h : g = k
      · have hb : (g == k) = true := beq_iff_eq.mpr h
        simp only [List.lookup, hb, if_neg (fun e : g = f => hk (h.symm.trans e))]
      · have hb : (g == k) = false := beq_eq_false_iff_ne.mpr h
        simp only [List.lookup, hb]
        exact ih
theorem keys_putF (f : Str) (v : V) : ∀ fs : List (Str × V), f ∈ (putF f v fs).map (·.1) ∧ ∀ g, g ∈ fs.map (·.1) → g ∈ (putF f v fs).map (·.1)
  | [] => ⟨by simp [putF], fun g h => by simp at h⟩
  | (k, x) :: r => by
    obtain ⟨i1, i2⟩ := keys_putF f v r
    rw [show putF f v ((k, x) :: r) = (if k = f then (k, v) :: r else (k, x) :: putF f v r) from rfl]
    by_cases hk : k = f
    · rw [if_pos hk]
      subst hk
      exact ⟨by simp, fun g h => by simpa using h⟩
    · rw [if_neg hk]
      refine ⟨?_, fun g h => ?_⟩
      · rw [List.map_cons]
        exact List.mem_cons_of_mem _ i1
      · rw [List.map_cons] at h ⊢
        rcases List.mem_cons.mp h with e | e
        · exact List.mem_cons.mpr (.inl e)
        · exact List.mem_cons_of_mem _ (i2 g e)
theorem length_putF (f : Str) (v : V) : ∀ fs : List (Str × V), (putF f v fs).length ≤ fs.length + 1
  | [] => by simp [putF]
  | (k, x) :: r => by
    have ih := length_putF f v r
    rw [show putF f v ((k, x) :: r) = (if k = f then (k, v) :: r else (k, x) :: putF f v r) from rfl]
    by_cases hk : k = f
    · rw [if_pos hk, List.length_cons, List.length_cons]; omega
    · rw [if_neg hk, List.length_cons, List.length_cons]; omega

theorem RelO.some_of {v : V} {o : Option Value} (r : RelO (some v) o) : ∃ u, o = some u ∧ RelV v u := by
  cases o with
  | none => exact (show False from r).elim
  | some u => exact ⟨u, rfl, r⟩
theorem RelO.none_of {o : Option Value} (r : RelO none o) : o = none := by
  cases o with
  | none => rfl
  | some u => exact (show False from r).elim
theorem handed_of {v : V} {u : Value} (r : RelV v u) : PySem.W.handedIn u = true := by
  cases v with
  | non => cases (show u = Value.none from r); rfl
  | bl b => cases (show u = Value.bool b from r); rfl
  | int i => obtain ⟨t, e⟩ := (show ∃ t, u = Value.int i t from r); cases e; rfl
  | str x => obtain ⟨t, e⟩ := (show ∃ t, u = Value.str x t from r); cases e; rfl
  | byt b => obtain ⟨t, e⟩ := (show ∃ t, u = Value.bytes b t from r); cases e; rfl
  | flt b => obtain ⟨t, e⟩ := (show ∃ t, u = Value.float b t from r); cases e; rfl
  | ref a => cases (show u = Value.ref a from r); rfl
  | ty n => cases (show u = Value.type n from r); rfl

section
variable {P : Program} {w : World} {H H' : Hp} {h h' : Heap} {a C dx : Addr} {fs fs' : List (Str × V)}
theorem ins_get (hok : HOk P w H h) (e : H a = some (.ins C dx fs)) : ∃ mA, ObjM h a dx C mA ∧ (∀ f, RelO (fs.lookup f) (mA f)) ∧ PySem.Within mA (fs.map (·.1)) ∧ fs.length ≤ 1000 ∧ H dx = some (.own a) := by
  obtain ⟨d, z, ne, ob, mA, n, r, q⟩ := (show ObjOk P w H h a (.ins C dx fs) from hok a _ e)
  exact ⟨mA, ⟨ob, n, ne⟩, r, q, z, d⟩
end

/-! ### what of the text a class must have -/
structure Cls (K : PySem.W.Frag) (C : Addr) : Prop where
  pg : PySem.W.plainGet K C Str.empty = true
  hd : PySem.W.hasDictIn K C = true
  po : PySem.W.plainOver K C = true
  sa : PySem.W.findIn K (.ref C) "__setattr__" = some (some (.builtin "object.__setattr__"))
theorem Cls.get {K : PySem.W.Frag} {C : Addr} (c : Cls K C) (f : Str) : PySem.W.plainGet K C f = true := c.pg
/-- no class of it has the name -/
def NoAttr (K : PySem.W.Frag) (C : Addr) (f : Str) : Prop := PySem.W.findIn K (.ref C) f = some none
theorem NoAttr.taker {K : PySem.W.Frag} {C : Addr} {f : Str} (n : NoAttr K C f) : PySem.W.takerIn K C f = some none := by
  unfold PySem.W.takerIn
  rw [show PySem.W.findIn K (.ref C) f = some none from n]
  rfl
/-- a constant of the class -/
structure Con (K : PySem.W.Frag) (C : Addr) (f : Str) (v : V) (u : Value) : Prop where
  at_ : PySem.W.findIn K (.ref C) f = some (some u)
  rel : RelV v u
  get : PySem.W.specialIn K u "__get__" = some none
  cp : PySem.W.copiedNames.contains f = false
/-- a method: a plain def of the class or of one above it -/
structure Meth (K : PySem.W.Frag) (C : Addr) (m : Str) (f : Addr) : Prop where
  at_ : PySem.W.findIn K (.ref C) m = some (some (.ref f))
  fn : PySem.W.isFn K (.ref f) = true
  kp : PySem.W.keepIn K (.ref f) = true

section
variable {X : Cx} {pins : List (Addr × Obj)} {σ : St} {H : Hp} {s : Shared} {a C dx : Addr} {fs : List (Str × V)} {f : Str} {v : V} {A : Around} {E : Value → Shared → Prop}

theorem getattr_ok {b : Bool} {Q : Value → Shared → Prop} (I : Inv X pins σ H s) (e : H a = some (.ins C dx fs)) (c : Cls X.K C) (n : NoAttr X.K C f) (l : fs.lookup f = some v)
    (h : ∀ u s', Inv X pins σ H s' → RelV v u → Q u s') : wpAny (model X.prog X.w) A (getAttr (.ref a) f b) Q E s := by
  obtain ⟨mA, O, r, _, _, _⟩ := ins_get I.hok e
  obtain ⟨u, hu, ru⟩ := RelO.some_of (v := v) (o := mA f) (by rw [← l]; exact r f)
  exact get_map I.kIn O (c.get f) c.hd n hu (handed_of ru) (h u _ (I.tok _) ru)

theorem getcon_ok {b : Bool} {u : Value} {Q : Value → Shared → Prop} (I : Inv X pins σ H s) (e : H a = some (.ins C dx fs)) (c : Cls X.K C) (k : Con X.K C f v u) (l : fs.lookup f = none)
    (h : ∀ s', Inv X pins σ H s' → Q u s') : wpAny (model X.prog X.w) A (getAttr (.ref a) f b) Q E s := by
  obtain ⟨mA, O, r, _, _, _⟩ := ins_get I.hok e
  have hn : mA f = none := RelO.none_of (by rw [← l]; exact r f)
  exact get_const I.kIn O (c.get f) c.hd k.at_ k.get k.cp hn (handed_of k.rel) (h _ (I.tok _))

theorem getmeth_ok {m : Str} {g : Addr} {pl : Sem Bool} {Q : Value × List Value → Shared → Prop} (I : Inv X pins σ H s) (e : H a = some (.ins C dx fs)) (c : Cls X.K C) (k : Meth X.K C m g) (l : fs.lookup m = none)
    (h : Q (.ref g, [.ref a]) s) : wpAny (model X.prog X.w) A (getMethod (.ref a) m pl) Q E s := by
  obtain ⟨mA, O, r, _, _, _⟩ := ins_get I.hok e
  have hn : mA m = none := RelO.none_of (by rw [← l]; exact r m)
  exact get_meth I.kIn O (c.get m) k.at_ k.fn hn h

theorem setattr_ok {y : V} {u : Value} {Q : Unit → Shared → Prop} (I : Inv X pins σ H s) (e : H a = some (.ins C dx fs)) (c : Cls X.K C) (n : NoAttr X.K C f) (hl : fs.length < 1000) (ry : RelV y u)
    (h : ∀ s', Inv X pins σ (upd H a (.ins C dx (putF f y fs))) s' → Q () s') : wpAny (model X.prog X.w) A (setAttr (.ref a) f u) Q E s := by
  obtain ⟨mA, O, r, wi, _, ho⟩ := ins_get I.hok e
  have hz : (fs.map (·.1)).length ≤ sizeLine := by rw [List.length_map, sizeLine_eq]; omega
  refine set_map I.kIn O c.sa c.po n.taker c.hd wi hz fun h' O' sb => h _ ?_
  have hd : ∃ o, h'.get? dx = some o := let ⟨o, _, _, e', _⟩ := O'.ns; ⟨o, e'⟩
  refine I.write (x := a) (e := dx) (by rw [e]; exact True.intro) (.inr ho) (fun b q hb z => (sb.2 b hb).trans z) hd ?_
  refine ⟨by rw [upd_ne O.ne]; exact ho, ?_, O.ne, O'.obj, _, O'.ns, fun g => ?_, fun g hg => ?_⟩
  · have := length_putF f y fs; omega
  · show RelO ((putF f y fs).lookup g) (if g = f then some u else mA g)
    rw [lookup_putF]
    by_cases q : g = f
    · rw [if_pos q, if_pos q]; exact ry
    · rw [if_neg q, if_neg q]; exact r g
  · by_cases q : g = f
    · rw [q]; exact (keys_putF f y fs).1
    · refine (keys_putF f y fs).2 g (wi g fun z => hg ?_)
      show (if g = f then some u else mA g) = none
      rw [if_neg q]; exact z

/-- a new instance, tracked, without attributes -/
theorem Inv.made (I : Inv X pins σ H s) : Inv X pins σ (upd (upd H s.heap.objs.size (.own (s.heap.objs.size + 1))) (s.heap.objs.size + 1) (.ins C s.heap.objs.size []))
    { s with heap := (s.heap.push PySem.W.emptyDict).push (PySem.W.instObj C s.heap.objs.size) } := by
  have e1 : (s.heap.push PySem.W.emptyDict).get? s.heap.objs.size = some PySem.W.emptyDict := Heap.get?_push_size s.heap rfl
  have e2 : ((s.heap.push PySem.W.emptyDict).push (PySem.W.instObj C s.heap.objs.size)).get? (s.heap.objs.size + 1) = some (PySem.W.instObj C s.heap.objs.size) := by
    have := Heap.get?_push_size (s.heap.push PySem.W.emptyDict) (o := PySem.W.instObj C s.heap.objs.size) rfl
    rwa [Heap.size_push] at this
  have e3 : (s.heap.push PySem.W.emptyDict).Ns s.heap.objs.size (fun _ => none) := ⟨PySem.W.emptyDict, #[], _, e1, rfl, (fun e he => absurd he (by simp)), fun _ => rfl⟩
  have I1 := I.laid (a := s.heap.objs.size) (o := .own (s.heap.objs.size + 1)) (h' := s.heap.push PySem.W.emptyDict) (t' := s.toks) (fun b u q => Heap.get?_push_of_some _ q) (Nat.le_refl _) ⟨_, e1⟩
  refine I1.laid (a := s.heap.objs.size + 1) (o := .ins C s.heap.objs.size []) (t' := s.toks) (fun b u q => Heap.get?_push_of_some _ q) (Nat.le_of_eq (Heap.size_push _ _)) ?_
  have ne : s.heap.objs.size ≠ s.heap.objs.size + 1 := Nat.ne_of_lt (Nat.lt_succ_self _)
  refine ⟨by rw [upd_ne ne, upd_same], Nat.zero_le _, ne, e2, fun _ => none, (Heap.Ns1.of_empty e3).at fun o q => Heap.get?_push_of_some _ q, fun _ => True.intro, fun y hy => absurd rfl hy⟩

/-- e.f where nothing but the object is asked: through attributeBase (super) and the last hold -/
theorem attr_of {prog : Program} {w : World} {env : Env} {e : Expr} {f : Str} {pos : Pos} {s : Shared} {Q : Value → Shared → Prop} (hb : attributeBase e f env (eval e env) = eval e env)
    (h : wpAny (model prog w) A (eval e env) (fun o s₁ => wpAny (model prog w) A (getAttr o f true) Q E s₁) E s) : wpAny (model prog w) A (eval (.Attribute e f pos) env) Q E s :=
  Attribute_any_ h (by rw [arm_eval_Attribute, hb])
end

/-! ### readings and rules -/
/-- e.f, an attribute of the instance -/
def tFld (K : PySem.W.Frag) (ta : TE) (f : Str) : TE := fun σ H Q => ta σ H fun x H1 => ∃ a C dx fs v, x = .ref a ∧ H1 a = some (.ins C dx fs) ∧ Cls K C ∧ NoAttr K C f ∧ fs.lookup f = some v ∧ Q v H1
/-- e.f, a constant of the class -/
def tCon (K : PySem.W.Frag) (ta : TE) (f : Str) : TE := fun σ H Q => ta σ H fun x H1 => ∃ a C dx fs v u, x = .ref a ∧ H1 a = some (.ins C dx fs) ∧ Cls K C ∧ Con K C f v u ∧ fs.lookup f = none ∧ Q v H1
/-- e.f = value -/
def sFld (K : PySem.W.Frag) (ta tv : TE) (f : Str) : TS := fun D σ H => tv σ H fun y H1 => ta σ H1 fun x H2 => ∃ a C dx fs, x = .ref a ∧ H2 a = some (.ins C dx fs) ∧ Cls K C ∧ NoAttr K C f ∧ fs.length < 1000 ∧
  D.nx σ (upd H2 a (.ins C dx (putF f y fs)))
/-- an augmented operator on two values -/
def InOp (X : Cx) (op : Operator) (rd : V → V → Hp → VK → Prop) : Prop :=
  ∀ (pins : List (Addr × Obj)) (s : Shared) (σ : St) (H : Hp) (x y : V) (u v : Value) (Q : VK), Inv X pins σ H s → RelV x u → RelV y v → rd x y H Q → wpAny (model X.prog X.w) X.A (inplaceOp op u v) (EP X pins σ Q) X.xe s
/-- e.f op= value -/
def sFldAug (K : PySem.W.Frag) (ta tv : TE) (rd : V → V → Hp → VK → Prop) (f : Str) : TS := fun D σ H => ta σ H fun x H1 => ∃ a C dx fs v, x = .ref a ∧ H1 a = some (.ins C dx fs) ∧ Cls K C ∧ NoAttr K C f ∧ fs.lookup f = some v ∧
  tv σ H1 fun y H2 => rd v y H2 fun z H3 => ∃ dx' fs', H3 a = some (.ins C dx' fs') ∧ fs'.length < 1000 ∧ D.nx σ (upd H3 a (.ins C dx' (putF f z fs')))

section
variable {X : Cx} {o e value : Expr} {f : Str} {pos pos' tpos : Pos} {ta tv : TE}
theorem pe_fld (he : PE X e ta) (hb : attributeBase e f X.env (eval e X.env) = eval e X.env) : PE X (.Attribute e f pos) (tFld X.K ta f) := by
  intro pins s σ H Q I h
  refine attr_of hb (thn (he pins s σ H _ I h) fun u s1 ⟨x, H1, I1, rx, a, C, dx, fs, v, ex, ea, c, n, l, q⟩ => ?_)
  subst ex
  obtain rfl : u = Value.ref a := rx
  exact getattr_ok I1 ea c n l fun u' s2 I2 ru => ⟨v, H1, I2, ru, q⟩
theorem pe_con (he : PE X e ta) (hb : attributeBase e f X.env (eval e X.env) = eval e X.env) : PE X (.Attribute e f pos) (tCon X.K ta f) := by
  intro pins s σ H Q I h
  refine attr_of hb (thn (he pins s σ H _ I h) fun u s1 ⟨x, H1, I1, rx, a, C, dx, fs, v, u0, ex, ea, c, k, l, q⟩ => ?_)
  subst ex
  obtain rfl : u = Value.ref a := rx
  exact getcon_ok I1 ea c k l fun s2 I2 => ⟨v, H1, I2, k.rel, q⟩
theorem ps_fld (ha : PE X o ta) (hv : PE X value tv) (hs : swapsWith value (some (.Attribute o f pos')) pos.line X.env = pure false) : PS X (.Assign [.Attribute o f pos'] value pos) (sFld X.K ta tv f) := by
  intro pins s σ H D I h
  refine plainObj_wpAny_Assign_Attribute (thn (hv pins s σ H _ I h) fun u s1 ⟨y, H1, I1, ry, q⟩ => thn (ha pins s1 σ H1 _ I1 q) fun ov s2 ⟨x, H2, I2, rx, a, C, dx, fs, ex, ea, c, n, l, q2⟩ => ?_) hs
  subst ex
  obtain rfl : ov = Value.ref a := rx
  exact setattr_ok I2 ea c n l ry fun s3 I3 => ⟨σ, _, I3, q2⟩
theorem ps_fldaug {op : Operator} {rd : V → V → Hp → VK → Prop} (ha : PE X o ta) (hv : PE X value tv) (hop : InOp X op rd) : PS X (.AugAssign (.Attribute o f tpos) op value pos) (sFldAug X.K ta tv rd f) := by
  intro pins s σ H D I h
  refine wpAny_AugAssign_AttributeAny (thn (ha pins s σ H _ I h) fun ov s1 ⟨x, H1, I1, rx, a, C, dx, fs, v, ex, ea, c, n, l, q⟩ => ?_)
  subst ex
  obtain rfl : ov = Value.ref a := rx
  refine getattr_ok I1 ea c n l fun u s2 I2 ru => thn (hv pins s2 σ H1 _ I2 q) fun w3 s3 ⟨y, H2, I3, ry, q3⟩ => thn (hop pins s3 σ H2 v y u w3 _ I3 ru ry q3) fun w4 s4 ⟨z, H3, I4, rz, dx', fs', ea', l', q4⟩ => ?_
  exact setattr_ok I4 ea' c n l' rz fun s5 I5 => ⟨σ, _, I5, q4⟩
def rAdd : V → V → Hp → VK → Prop := fun x y H Q => ∃ i j, x = .int i ∧ y = .int j ∧ Q (.int (i + j)) H
def rSub : V → V → Hp → VK → Prop := fun x y H Q => ∃ i j, x = .int i ∧ y = .int j ∧ Q (.int (i - j)) H
theorem in_add : InOp X .Add rAdd := by
  rintro pins s σ H x y u v Q I rx ry ⟨i, j, rfl, rfl, q⟩
  obtain ⟨t, rfl⟩ := (show ∃ t, u = Value.int i t from rx)
  obtain ⟨t', rfl⟩ := (show ∃ t', v = Value.int j t' from ry)
  exact PyProof.Rows.iadd_int ⟨.int (i + j), H, I.tok _, ⟨_, rfl⟩, q⟩
theorem in_sub : InOp X .Sub rSub := by
  rintro pins s σ H x y u v Q I rx ry ⟨i, j, rfl, rfl, q⟩
  obtain ⟨t, rfl⟩ := (show ∃ t, u = Value.int i t from rx)
  obtain ⟨t', rfl⟩ := (show ∃ t', v = Value.int j t' from ry)
  exact PyProof.Rows.isub_int ⟨.int (i - j), H, I.tok _, ⟨_, rfl⟩, q⟩

/-- what is between an instance and its method: the tree of a method call -/
theorem methcall_of {pl : Sem Bool} {m : Str} {apos : Pos} {args : List Expr} {pins : List (Addr × Obj)} {s : Shared} {σ : St} {H : Hp} {Q : Value → Shared → Prop} {te : TE} (he : PE X e te) (I : Inv X pins σ H s)
    (h : te σ H fun x H1 => ∃ a C dx fs g, x = .ref a ∧ H1 a = some (.ins C dx fs) ∧ Cls X.K C ∧ Meth X.K C m g ∧ fs.lookup m = none ∧
      ∀ s1, Inv X pins σ H1 s1 → wpAny (model X.prog X.w) X.A (callWith pos (.ref g) [.ref a] (backTo pos (starEach args X.env)) (backToKw pos (keywordEach [] X.env))) Q X.xe s1)
    (ht : eval (.Call (.Attribute e m apos) args [] pos) X.env = (do
      let ov ← eval e X.env
      standAt apos.atName
      let (f, first) ← holding [ov] (getMethod ov m pl)
      callWith pos f first (backTo pos (starEach args X.env)) (backToKw pos (keywordEach [] X.env)))) :
    wpAny (model X.prog X.w) X.A (eval (.Call (.Attribute e m apos) args [] pos) X.env) Q X.xe s := by
  refine PySem.W.methodCall_KW (pl := pl) (thn (he pins s σ H _ I h) fun u s1 ⟨x, H1, I1, rx, a, C, dx, fs, g, ex, ea, c, k, l, q⟩ => ?_) ht
  subst ex
  obtain rfl : u = Value.ref a := rx
  exact getmeth_ok I1 ea c k l (q s1 I1)
end

/-! ### isinstance -/
section
variable {X : Cx} {pins : List (Addr × Obj)} {σ : St} {H : Hp} {s : Shared} {A : Around} {E : Value → Shared → Prop} {Q : Value → Shared → Prop} {c : Value} {b : Bool}
/-- the type of a value, as the fragment's deciders take it; for an instance its class -/
inductive TyOf (K : PySem.W.Frag) (H : Hp) : V → Value → Prop where
  | non : TyOf K H .non (.type "NoneType")
  | bl (x : Bool) : TyOf K H (.bl x) (.type "bool")
  | int (i : Int) : TyOf K H (.int i) (.type "int")
  | str (x : Str) : TyOf K H (.str x) (.type "str")
  | flt (x : UInt64) : TyOf K H (.flt x) (.type "float")
  | lst {a : Addr} {xs : List V} (e : H a = some (.lst xs)) : TyOf K H (.ref a) (.type "list")
  | frz {a : Addr} {o : Obj} {xs : List V} (e : H a = some (.frz o (.lst xs))) : TyOf K H (.ref a) (.type "list")
  | tup {a : Addr} {xs : List V} (e : H a = some (.tup xs)) : TyOf K H (.ref a) (.type "tuple")
  | dK {a : Addr} {kvs : List (Key × V)} (e : H a = some (.dK kvs)) : TyOf K H (.ref a) (.type "dict")
  | dT {a : Addr} {kvs : List (List Key × V)} (e : H a = some (.dT kvs)) : TyOf K H (.ref a) (.type "dict")
  | ins {a C dx : Addr} {fs : List (Str × V)} (e : H a = some (.ins C dx fs)) (cl : Cls K C) (ha : PySem.W.findIn K (.ref C) "__class__" = some (some (.builtin "object.__class__")))
      (hn : PySem.W.specialIn K (.builtin "object.__class__") "__get__" = some (some (.builtin "getset_descriptor.__get__"))) (htk : PySem.W.takesIn K (.builtin "object.__class__") = some true)
      (hm : PySem.W.mroIn K C (.type "object") = some true) : TyOf K H (.ref a) (.ref C)
/-- isinstance(x, c) for one class c, a built-in or an own one: kitOne's answer -/
theorem isinst_ok {x : V} {u t : Value} (I : Inv X pins σ H s) (rx : RelV x u) (ty : TyOf X.K H x t) (e : PySem.W.kitOne X.K t c = some b) (h : ∀ tk, Q (.bool b) { s with toks := tk }) :
    wpAny (model X.prog X.w) A (call (.builtin "isinstance") [u, c]) Q E s := by
  cases ty with
  | non => cases (show u = Value.none from rx); exact PySem.W.kia_one PySem.W.kitx_none I.kIn True.intro e (fun z => nomatch z) h
  | bl y => cases (show u = Value.bool y from rx); exact PySem.W.kia_one PySem.W.kitx_bool I.kIn True.intro e (fun z => nomatch z) h
  | int i => obtain ⟨t, q⟩ := (show ∃ t, u = Value.int i t from rx); cases q; exact PySem.W.kia_one PySem.W.kitx_int I.kIn True.intro e (fun z => nomatch z) h
  | str y => obtain ⟨t, q⟩ := (show ∃ t, u = Value.str y t from rx); cases q; exact PySem.W.kia_one PySem.W.kitx_str I.kIn True.intro e (fun z => nomatch z) h
  | flt y => obtain ⟨t, q⟩ := (show ∃ t, u = Value.float y t from rx); cases q; exact PySem.W.kia_one PySem.W.kitx_float I.kIn True.intro e (fun z => nomatch z) h
  | @lst a xs ea =>
    cases (show u = Value.ref a from rx)
    obtain ⟨_, _, n, _, h1⟩ := (show ObjOk X.prog X.w H s.heap a (.lst xs) from I.hok a _ ea)
    exact PySem.W.kia_one PySem.W.kitx_list I.kIn ⟨_, h1, rfl⟩ e (fun z => nomatch z) h
  | @frz a ob xs ea =>
    cases (show u = Value.ref a from rx)
    obtain ⟨_, _, _, n, _, h1⟩ := (show ObjOk X.prog X.w H s.heap a (.frz ob (.lst xs)) from I.hok a _ ea)
    exact PySem.W.kia_one PySem.W.kitx_list I.kIn ⟨_, h1, rfl⟩ e (fun z => nomatch z) h
  | @tup a xs ea =>
    cases (show u = Value.ref a from rx)
    obtain ⟨_, _, _, p⟩ := (show ObjOk X.prog X.w H s.heap a (.tup xs) from I.hok a _ ea)
    obtain ⟨o, h1, h2, _⟩ := p
    exact PySem.W.kia_one PySem.W.kitx_tuple I.kIn ⟨o, h1, h2⟩ e (fun z => nomatch z) h
  | @dK a kvs ea =>
    cases (show u = Value.ref a from rx)
    obtain ⟨_, _, vs, _, p⟩ := (show ObjOk X.prog X.w H s.heap a (.dK kvs) from I.hok a _ ea)
    obtain ⟨o, es, ep, h1, h2, _⟩ := p
    exact PySem.W.kia_one PySem.W.kitx_dict I.kIn ⟨o, h1, h2.1⟩ e (fun z => nomatch z) h
  | @dT a kvs ea =>
    cases (show u = Value.ref a from rx)
    obtain ⟨_, _, xs, _, o, es, ep, h1, h2, _⟩ := (show ObjOk X.prog X.w H s.heap a (.dT kvs) from I.hok a _ ea)
    exact PySem.W.kia_one PySem.W.kitx_dict I.kIn ⟨o, h1, h2.1⟩ e (fun z => nomatch z) h
  | @ins a C dx fs ea cl ha hn htk hm =>
    cases (show u = Value.ref a from rx)
    obtain ⟨mA, O, _⟩ := ins_get I.hok ea
    obtain ⟨od, J, _⟩ := O.look
    exact PySem.W.kia_one (PySem.W.kitx_own (cl.get _) cl.hd ha hn htk hm) I.kIn J e (fun z => nomatch z) h
end
end L2

namespace L2
open PySem PySem.Spec PyProof.Rows

/-! ### room -/
structure Room (k : Nat) (A : Around) : Prop where
  hd : A.handled = none
  dp : A.depth + 3 * k + 5 < recursionLimit
  un : A.units + 16 * k + 200 < cLine
theorem Room.mono {j k : Nat} {A : Around} (r : Room k A) (h : j ≤ k) : Room j A := ⟨r.hd, by have := r.dp; omega, by have := r.un; omega⟩
theorem Room.deeper {k : Nat} {A : Around} (r : Room (k + 1) A) (env : Env) : Room k (A.deeper env) :=
  ⟨r.hd, by have := r.dp; show A.depth + 1 + 3 * k + 5 < _; omega, by have := r.un; show A.units + 3 + 16 * k + 200 < _; omega⟩
theorem Room.in1 {k : Nat} {A : Around} (r : Room (k + 1) A) : Room k A.in1 :=
  ⟨r.hd, by have := r.dp; show A.depth + 3 * k + 5 < _; omega, by have := r.un; show A.units + 1 + 16 * k + 200 < _; omega⟩
theorem make_depth {A : Around} {C : Addr} {us : List Value} {kw : List (Str × Value)} : (A.under (.builtin "type.__call__" ⟨.ref C :: us, kw⟩)).depth = A.depth + 1 := by
  first | rfl | simp [Around.under, Code.weight, Code.isCreation, Code.isGuard, Code.isCaller, Code.frames, Code.isFrame, guardIds]
theorem make_units {A : Around} {C : Addr} {us : List Value} {kw : List (Str × Value)} : (A.under (.builtin "type.__call__" ⟨.ref C :: us, kw⟩)).units = A.units + 1 := by
  first | rfl | simp [Around.under, Code.cUnits, Code.frames, Code.isFrame]
theorem Room.make {k : Nat} {A : Around} (r : Room (k + 1) A) (C : Addr) (us : List Value) (kw : List (Str × Value)) : Room k (A.under (.builtin "type.__call__" ⟨.ref C :: us, kw⟩)) :=
  ⟨r.hd, by have := r.dp; rw [make_depth]; omega, by have := r.un; rw [make_units]; omega⟩
theorem Room.depth {k : Nat} {A : Around} (r : Room k A) : A.depth < recursionLimit := by have := r.dp; omega
theorem Room.units {k : Nat} {A : Around} (r : Room k A) : A.units + 64 < cLine := by have := r.un; omega
theorem Room.units0 {k : Nat} {A : Around} (r : Room k A) : A.units < cLine := by have := r.un; omega

/-! ### argument lists and displays -/
def tNil : TA := fun _ H Q => Q [] H
def tCons (ta : TE) (tr : TA) : TA := fun σ H Q => ta σ H fun x H1 => tr σ H1 fun xs H2 => Q (x :: xs) H2
section
variable {X : Cx} {e : Expr} {es : List Expr} {te : TE} {t : TA} {pos : Pos}
theorem pa_nil : PA X [] tNil := fun _ _ _ _ H Q I h => Calls.spliced_nil ⟨[], H, I, .nil, h⟩
theorem pa_cons (ha : PE X e te) (hr : PA X es t) (hs : starEach (e :: es) X.env = (false, eval e X.env) :: starEach es X.env := by rfl) : PA X (e :: es) (tCons te t) := by
  intro pos pins s σ H Q I h
  rw [hs]
  show wpAny _ _ (spliced ((false, eval e X.env) :: backTo pos (starEach es X.env))) _ _ s
  refine Calls.spliced_cons (thn (ha pins s σ H _ I h) fun u s1 ⟨x, H1, I1, r1, q1⟩ => ?_)
  exact thn (hr pos pins s1 σ H1 _ I1 q1) fun us s2 ⟨xs, H2, I2, r2, q2⟩ => ⟨x :: xs, H2, I2, .cons r1 r2, q2⟩

/-- a tuple, a list of written items -/
def tTup (t : TA) : TE := fun σ H Q => t σ H fun xs H1 => xs.length ≤ sizeLine ∧ ∀ p, H1 p = none → Q (.ref p) (upd H1 p (.tup xs))
def tLst (t : TA) : TE := fun σ H Q => t σ H fun xs H1 => xs.length ≤ sizeLine ∧ ∀ p, H1 p = none → Q (.ref p) (upd H1 p (.lst xs))
theorem pe_tup {x1} (h : PA X es t) : PE X (.Tuple es x1 pos) (tTup t) := by
  intro pins s σ H Q I hq
  refine wpAny_Tuple_spliced (thn (h pos pins s σ H _ I hq) fun us s1 ⟨xs, H1, I1, r, z, q⟩ => ⟨by rw [← r.length]; exact z, ?_⟩)
  have hf : H1 s1.heap.objs.size = none := I1.hok.fresh (Nat.le_refl _)
  refine ⟨.ref s1.heap.objs.size, upd H1 s1.heap.objs.size (.tup xs), I1.laid (t' := s1.toks) (fun b u e => Heap.get?_push_of_some _ e) (Nat.le_refl _) ?_, rfl, q _ hf⟩
  exact ⟨z, us, r, ⟨_, Heap.get?_push_size _ rfl, rfl, _, rfl⟩⟩
theorem pe_lst (h : PA X es t) : PE X (.List es pos) (tLst t) := by
  intro pins s σ H Q I hq
  refine wpAny_List_spliced (thn (h pos pins s σ H _ I hq) fun us s1 ⟨xs, H1, I1, r, z, q⟩ => ⟨by rw [← r.length]; exact z, ?_⟩)
  have hf : H1 s1.heap.objs.size = none := I1.hok.fresh (Nat.le_refl _)
  refine ⟨.ref s1.heap.objs.size, upd H1 s1.heap.objs.size (.lst xs), I1.laid (t' := s1.toks) (fun b u e => Heap.get?_push_of_some _ e) (Nat.le_refl _) ?_, rfl, q _ hf⟩
  exact ⟨z, us, 0, r, Heap.get?_push_size _ rfl⟩
end

/-! ### what a def promises -/
/-- a def's promise: the bound arguments in the parameters' order, the heap, the wanted end, the wanted exception -/
abbrev Sp := List V → Hp → VK → XK → Prop
/-- how an exception lies behind a call (file 08 gives it): the callers' frames, abstract heap and state ahead of the call, the wish, the exception, the state -/
abbrev CXT := List Env → Hp → Shared → XK → Value → Shared → Prop

/-- the state at a call -/
structure Env0 (P : Program) (w : World) (K : PySem.W.Frag) (mg : Str → Option Value) (base : Heap) (A : Around) (outer : List Env) (s : Shared) (H : Hp) : Prop where
  frames : A.frames = some outer
  mod : Mod K mg base
  bs : ∀ b o, base.get? b = some o → s.heap.get? b = some o ∧ H b = none
  bsz : base.objs.size ≤ s.heap.objs.size
  funs : s.heap.FunFrames base outer
  frf : ∀ b ∈ frs outer, H b = none
  hok : HOk P w H s.heap
  bare : AllBare s.gens
/-- a call's end -/
def CE (outer : List Env) (P : Program) (w : World) (H : Hp) (s : Shared) (Q : VK) (u : Value) (s' : Shared) : Prop :=
  ∃ v H', s'.os = s.os ∧ AllBare s'.gens ∧ Un (frs outer) [] H H' s.heap s'.heap ∧ HOk P w H' s'.heap ∧ RelV v u ∧ Q v H'
def CR (CX : CXT) (outer : List Env) (P : Program) (w : World) (H : Hp) (s : Shared) (Q : VK) (E : XK) (r : Result) (s' : Shared) : Prop :=
  match r with
  | .ok (.ret u) => CE outer P w H s Q u s'
  | .ok _ => False
  | .error e => CX outer H s E e s'
structure FnOk (P : Program) (w : World) (K : PySem.W.Frag) (mg : Str → Option Value) (base : Heap) (CX : CXT) (k : Nat) (f : Addr) (fd : FuncData) (ps : List Str) (sp : Sp) : Prop where
  len : ∀ vs H Q E, sp vs H Q E → vs.length = ps.length
  run : ∀ (A : Around) (outer : List Env) (s : Shared) (H : Hp) (args : Args) (us : List Value) (vs : List V) (Q : VK) (E : XK), Room k A → Env0 P w K mg base A outer s H → BindsTo s fd args (ps.zip us) → Vals vs us → sp vs H Q E →
    codeAny (model P w) A (.call (.ref f) args) (CR CX outer P w H s Q E) s
theorem FnOk.mono {P : Program} {w : World} {K : PySem.W.Frag} {mg : Str → Option Value} {base : Heap} {CX : CXT} {j k : Nat} {f : Addr} {fd : FuncData} {ps : List Str} {sp : Sp} (F : FnOk P w K mg base CX j f fd ps sp) (h : j ≤ k) :
    FnOk P w K mg base CX k f fd ps sp := ⟨F.len, fun A outer s H args us vs Q E hr => F.run A outer s H args us vs Q E (hr.mono h)⟩
/-- a weaker promise -/
theorem FnOk.imp {P : Program} {w : World} {K : PySem.W.Frag} {mg : Str → Option Value} {base : Heap} {CX : CXT} {k : Nat} {f : Addr} {fd : FuncData} {ps : List Str} {sp sp' : Sp} (F : FnOk P w K mg base CX k f fd ps sp)
    (h : ∀ vs H Q E, sp' vs H Q E → sp vs H Q E) : FnOk P w K mg base CX k f fd ps sp' :=
  ⟨fun vs H Q E q => F.len vs H Q E (h _ _ _ _ q), fun A outer s H args us vs Q E hr he hb hv hs => F.run A outer s H args us vs Q E hr he hb hv (h _ _ _ _ hs)⟩

theorem Env0.make {P : Program} {w : World} {K : PySem.W.Frag} {mg : Str → Option Value} {base : Heap} {A : Around} {outer : List Env} {s : Shared} {H : Hp} (e : Env0 P w K mg base A outer s H) (C : Addr) (us : List Value) (kw : List (Str × Value)) :
    Env0 P w K mg base (A.under (.builtin "type.__call__" ⟨.ref C :: us, kw⟩)) outer s H := ⟨by first | exact e.frames | (simpa [Around.under, Code.envs, Code.isFrame, pushEnvs] using e.frames), e.mod, e.bs, e.bsz, e.funs, e.frf, e.hok, e.bare⟩
theorem Env0.in1 {P : Program} {w : World} {K : PySem.W.Frag} {mg : Str → Option Value} {base : Heap} {A : Around} {outer : List Env} {s : Shared} {H : Hp} (e : Env0 P w K mg base A outer s H) :
    Env0 P w K mg base A.in1 outer s H := ⟨e.frames, e.mod, e.bs, e.bsz, e.funs, e.frf, e.hok, e.bare⟩

section
variable {X : Cx} {pins : List (Addr × Obj)} {σ : St} {H : Hp} {s s' : Shared}
/-- from a body: what a callee wants -/
theorem Inv.env0 (I : Inv X pins σ H s) : Env0 X.prog X.w X.K X.mg X.base X.A X.stack s H :=
  ⟨I.ok.frames, I.ok.mod, I.bs, Nat.le_trans I.ok.bsz I.sz, I.stack, I.stkFree, I.hok, I.bare⟩
/-- behind a call -/
theorem Inv.after {Q : VK} {u : Value} (I : Inv X pins σ H s) (h : CE X.stack X.prog X.w H s Q u s') : EP X pins σ Q u s' := by
  obtain ⟨v, H', os, bare, un, hok, r, q⟩ := h
  obtain ⟨hh, g, d, t, os'⟩ := s'
  obtain rfl : os' = s.os := os
  exact ⟨v, H', I.call (h' := hh) (g' := g) (d' := d) (t' := t) (ch := []) un hok bare (fun b z => absurd z (by simp)), r, q⟩
end

/-! ### calls -/
/-- f(..): the written arguments, then the defaults dvs; E: what is wanted of an exception -/
def tCall (sp : Sp) (dvs : List V) (E : XK) (t : TA) : TE := fun σ H Q => t σ H fun vs H1 => sp (vs ++ dvs) H1 Q E
/-- o.m(..) of an instance of the class at C -/
def tMeth (C : Addr) (m : Str) (sp : Sp) (dvs : List V) (E : XK) (ta : TE) (t : TA) : TE := fun σ H Q => ta σ H fun x H1 => ∃ a dx fs, x = .ref a ∧ H1 a = some (.ins C dx fs) ∧ fs.lookup m = none ∧
  t σ H1 fun vs H2 => sp (x :: (vs ++ dvs)) H2 Q E
/-- C(..): a new instance and its dict, then __init__ -/
def tMake (C : Addr) (sp : Sp) (dvs : List V) (E : XK) (t : TA) : TE := fun σ H Q => t σ H fun vs H1 => ∀ x dx, H1 x = none → H1 dx = none → dx ≠ x →
  sp (.ref x :: (vs ++ dvs)) (upd (upd H1 dx (.own x)) x (.ins C dx [])) (fun v H2 => v = .non ∧ Q (.ref x) H2) E

/-- how the parameters are bound: us the positional arguments, kw the keywords' values by name, ds the defaults that fill up -/
def Binds (K : PySem.W.Frag) (fd : FuncData) (ps : List Str) (ds : List Value) : Prop :=
  ∀ (s : Shared) (us : List Value), K.In s.heap → (us ++ ds).length = ps.length → BindsTo s fd ⟨us, []⟩ (ps.zip (us ++ ds))
/-- every parameter is given -/
theorem Binds.all {K : PySem.W.Frag} {fd : FuncData} {ps : List Str} (h : ∀ us : List Value, us.length = ps.length → bindArgs fd ⟨us, []⟩ = pure (ps.zip us)) : Binds K fd ps [] := fun s us _ hl => by
  rw [List.append_nil] at hl ⊢
  exact .of_eq (h us hl)

/-- an exception of a callee reaches what this body wants of exceptions -/
def Passes (CX : CXT) (X : Cx) (E : XK) : Prop := ∀ (pins : List (Addr × Obj)) (σ : St) (H : Hp) (s : Shared) (e : Value) (s' : Shared), Inv X pins σ H s → CX X.stack H s E e s' → X.xe e s'

section
variable {X : Cx} {CX : CXT} {k : Nat} {f C : Addr} {fd : FuncData} {ps : List Str} {sp : Sp} {dvs : List V} {ds : List Value} {E : XK} {x m : Str} {p pos apos : Pos} {e o : Expr} {es : List Expr} {ta : TE} {t : TA}

/-- the callee runs -/
theorem run_fn {pins : List (Addr × Obj)} {σ : St} {H : Hp} {s : Shared} {Q : VK} {us : List Value} {vs : List V} (F : FnOk X.prog X.w X.K X.mg X.base CX k f fd ps sp) (hr : Room k X.A) (hb : Binds X.K fd ps ds) (hd : Vals dvs ds) (hx : Passes CX X E)
    (I : Inv X pins σ H s) (r : Vals vs us) (h : sp (vs ++ dvs) H Q E) : wpAny (model X.prog X.w) X.A (call (.ref f) us) (EP X pins σ Q) X.xe s := by
  have r2 : Vals (vs ++ dvs) (us ++ ds) := r.append hd
  have hl : (us ++ ds).length = ps.length := by rw [← r2.length]; exact F.len _ _ _ _ h
  refine wpAny_call (codeAny_mono (F.run X.A X.stack s H ⟨us, []⟩ (us ++ ds) (vs ++ dvs) Q E hr I.env0 (hb s us I.kIn hl) r2 h) fun r s' hq => ?_)
  cases r with
  | error e => exact hx pins σ H s e s' I hq
  | ok fl =>
    cases fl with
    | ret u => exact I.after hq
    | next => exact False.elim hq
    | brk => exact False.elim hq
    | cont => exact False.elim hq

theorem pe_call (F : FnOk X.prog X.w X.K X.mg X.base CX k f fd ps sp) (hr : Room k X.A) (hg : Gl X x) (hm : X.mg x = some (.ref f)) (hk : PySem.W.keepIn X.K (.ref f) = true) (hb : Binds X.K fd ps ds) (hd : Vals dvs ds) (hx : Passes CX X E)
    (ha : PA X (e :: es) t) (hdb : (x == ("__debug__" : Str)) = false := by decide) (he : starEach (e :: es) X.env = (false, eval e X.env) :: starEach es X.env := by rfl) (hpl : (backTo pos (starEach es X.env)).any (·.1) = false := by rfl) :
    PE X (.Call (.Name x p) (e :: es) [] pos) (tCall sp dvs E t) := by
  intro pins s σ H Q I h
  refine wpAny_Call_Name_kw (ld_glob I hg hm ?_ hdb)
  refine PySem.W.callWith_K (h₀ := X.base) I.ok.mod.kin hk (thn (ha pos pins s σ H _ I h) fun us s1 ⟨vs, H1, I1, r, q⟩ => ⟨I1.kIn, ?_⟩) he hpl
  exact run_fn F hr hb hd hx I1 r q
theorem pe_call0 (F : FnOk X.prog X.w X.K X.mg X.base CX k f fd ps sp) (hr : Room k X.A) (hg : Gl X x) (hm : X.mg x = some (.ref f)) (hk : PySem.W.keepIn X.K (.ref f) = true) (hb : Binds X.K fd ps ds) (hd : Vals dvs ds) (hx : Passes CX X E)
    (hdb : (x == ("__debug__" : Str)) = false := by decide) : PE X (.Call (.Name x p) [] [] pos) (tCall sp dvs E tNil) := by
  intro pins s σ H Q I h
  refine wpAny_Call_Name_kw (ld_glob I hg hm ?_ hdb)
  exact PySem.W.callWith_K0 I.kIn hk (run_fn (us := []) F hr hb hd hx I .nil h)

/-- o.m(e, ..) -/
theorem pe_meth {pl : Sem Bool} (he : PE X o ta) (c : Cls X.K C) (hm : Meth X.K C m f) (F : FnOk X.prog X.w X.K X.mg X.base CX k f fd ps sp) (hr : Room k X.A) (hb : Binds X.K fd ps ds) (hd : Vals dvs ds) (hx : Passes CX X E) (ha : PA X (e :: es) t)
    (hst : starEach (e :: es) X.env = (false, eval e X.env) :: starEach es X.env := by rfl) (hpl : (backTo pos (starEach es X.env)).any (·.1) = false := by rfl)
    (ht : eval (.Call (.Attribute o m apos) (e :: es) [] pos) X.env = (do
      let ov ← eval o X.env
      standAt apos.atName
      let (f, first) ← holding [ov] (getMethod ov m pl)
      callWith pos f first (backTo pos (starEach (e :: es) X.env)) (backToKw pos (keywordEach [] X.env))) := by rfl) :
    PE X (.Call (.Attribute o m apos) (e :: es) [] pos) (tMeth C m sp dvs E ta t) := by
  intro pins s σ H Q I h
  refine PySem.W.methodCall_KW (pl := pl) (thn (he pins s σ H _ I h) fun u s1 ⟨x, H1, I1, rx, a, dx, fs, ex, ea, l, q⟩ => ?_) ht
  subst ex
  obtain rfl : u = Value.ref a := rx
  refine getmeth_ok I1 ea c hm l ?_
  refine PySem.W.callWith_K (first := [.ref a]) (h₀ := X.base) I.ok.mod.kin hm.kp (thn (ha pos pins s1 σ H1 _ I1 q) fun us s2 ⟨vs, H2, I2, r, q2⟩ => ⟨I2.kIn, ?_⟩) hst hpl
  exact run_fn (us := .ref a :: us) (vs := .ref a :: vs) F hr hb hd hx I2 (.cons rfl r) q2
/-- o.m() -/
theorem pe_meth0 {pl : Sem Bool} (he : PE X o ta) (c : Cls X.K C) (hm : Meth X.K C m f) (F : FnOk X.prog X.w X.K X.mg X.base CX k f fd ps sp) (hr : Room k X.A) (hb : Binds X.K fd ps ds) (hd : Vals dvs ds) (hx : Passes CX X E)
    (ht : eval (.Call (.Attribute o m apos) [] [] pos) X.env = (do
      let ov ← eval o X.env
      standAt apos.atName
      let (f, first) ← holding [ov] (getMethod ov m pl)
      callWith pos f first (backTo pos (starEach [] X.env)) (backToKw pos (keywordEach [] X.env))) := by rfl) :
    PE X (.Call (.Attribute o m apos) [] [] pos) (tMeth C m sp dvs E ta tNil) := by
  intro pins s σ H Q I h
  refine PySem.W.methodCall_KW (pl := pl) (thn (he pins s σ H _ I h) fun u s1 ⟨x, H1, I1, rx, a, dx, fs, ex, ea, l, q⟩ => ?_) ht
  subst ex
  obtain rfl : u = Value.ref a := rx
  refine getmeth_ok I1 ea c hm l ?_
  exact PySem.W.callWith_K0 (first := [.ref a]) I1.kIn hm.kp (run_fn (us := [.ref a]) (vs := [.ref a]) F hr hb hd hx I1 (.cons rfl .nil) q)

/-- what a class must have to be made -/
structure Mk (K : PySem.W.Frag) (C f : Addr) : Prop where
  makes : PySem.W.makesIn K C = true
  init : PySem.W.findIn K (.ref C) "__init__" = some (some (.ref f))
  fn : PySem.W.isFn K (.ref f) = true
  kp : PySem.W.keepIn K (.ref C) = true

theorem run_make {pins : List (Addr × Obj)} {σ : St} {H : Hp} {s : Shared} {Q : VK} {us : List Value} {vs : List V} (M : Mk X.K C f) (F : FnOk X.prog X.w X.K X.mg X.base CX k f fd ps sp) (hr : Room (k + 1) X.A) (hb : Binds X.K fd ps ds) (hd : Vals dvs ds)
    (hx : Passes CX X E) (I : Inv X pins σ H s) (r : Vals vs us)
    (h : ∀ x dx, H x = none → H dx = none → dx ≠ x → sp (.ref x :: (vs ++ dvs)) (upd (upd H dx (.own x)) x (.ins C dx [])) (fun v H2 => v = .non ∧ Q (.ref x) H2) E) :
    wpAny (model X.prog X.w) X.A (call (.ref C) us) (EP X pins σ Q) X.xe s := by
  have hq := h (s.heap.objs.size + 1) s.heap.objs.size (I.hok.fresh (Nat.le_succ _)) (I.hok.fresh (Nat.le_refl _)) (Nat.ne_of_lt (Nat.lt_succ_self _))
  have I2 := Inv.made (C := C) I
  have r2 : Vals (V.ref (s.heap.objs.size + 1) :: (vs ++ dvs)) (Value.ref (s.heap.objs.size + 1) :: (us ++ ds)) := .cons rfl (r.append hd)
  have hl : (Value.ref (s.heap.objs.size + 1) :: us ++ ds).length = ps.length := by
    have e := r2.length
    rw [F.len _ _ _ _ hq] at e
    exact e.symm
  refine wpAny_call (make_map (f := f) I.kIn M.makes M.init (beq_iff_eq.mp M.fn) (codeAny_mono (F.run _ X.stack _ _ ⟨Value.ref (s.heap.objs.size + 1) :: us, []⟩ (Value.ref (s.heap.objs.size + 1) :: (us ++ ds)) _ _ E (hr.make C us [])
    (I2.env0.make C us []) (hb _ (Value.ref (s.heap.objs.size + 1) :: us) I2.kIn hl) r2 hq) fun r s' hq' => ?_))
  cases r with
  | error e => exact hx pins σ _ _ e s' I2 hq'
  | ok fl =>
    cases fl with
    | ret u =>
      obtain ⟨v, H', I3, rv, ev, q3⟩ := I2.after hq'
      subst ev
      exact ⟨rv, ⟨V.ref (s.heap.objs.size + 1), H', I3, rfl, q3⟩⟩
    | next => exact False.elim hq'
    | brk => exact False.elim hq'
    | cont => exact False.elim hq'
theorem pe_make (M : Mk X.K C f) (F : FnOk X.prog X.w X.K X.mg X.base CX k f fd ps sp) (hr : Room (k + 1) X.A) (hg : Gl X x) (hm : X.mg x = some (.ref C)) (hb : Binds X.K fd ps ds) (hd : Vals dvs ds) (hx : Passes CX X E)
    (ha : PA X (e :: es) t) (hdb : (x == ("__debug__" : Str)) = false := by decide) (he : starEach (e :: es) X.env = (false, eval e X.env) :: starEach es X.env := by rfl) (hpl : (backTo pos (starEach es X.env)).any (·.1) = false := by rfl) :
    PE X (.Call (.Name x p) (e :: es) [] pos) (tMake C sp dvs E t) := by
  intro pins s σ H Q I h
  refine wpAny_Call_Name_kw (ld_glob I hg hm ?_ hdb)
  refine PySem.W.callWith_K (h₀ := X.base) I.ok.mod.kin M.kp (thn (ha pos pins s σ H _ I h) fun us s1 ⟨vs, H1, I1, r, q⟩ => ⟨I1.kIn, ?_⟩) he hpl
  exact run_make M F hr hb hd hx I1 r q
theorem pe_make0 (M : Mk X.K C f) (F : FnOk X.prog X.w X.K X.mg X.base CX k f fd ps sp) (hr : Room (k + 1) X.A) (hg : Gl X x) (hm : X.mg x = some (.ref C)) (hb : Binds X.K fd ps ds) (hd : Vals dvs ds) (hx : Passes CX X E)
    (hdb : (x == ("__debug__" : Str)) = false := by decide) : PE X (.Call (.Name x p) [] [] pos) (tMake C sp dvs E tNil) := by
  intro pins s σ H Q I h
  refine wpAny_Call_Name_kw (ld_glob I hg hm ?_ hdb)
  exact PySem.W.callWith_K0 I.kIn M.kp (run_make (us := []) M F hr hb hd hx I .nil h)
end

/-! ### keywords -/
/-- the values of the keywords, from the left -/
def PK (X : Cx) (kws : List Keyword) (t : TA) : Prop :=
  ∀ (pos : Pos) (pins : List (Addr × Obj)) (s : Shared) (σ : St) (H : Hp) (Q : List V → Hp → Prop), Inv X pins σ H s → t σ H Q → wpAny (model X.prog X.w) X.A (evalAll ((backToKw pos (keywordEach kws X.env)).map (·.2))) (AP X pins σ Q) X.xe s
section
variable {X : Cx} {CX : CXT} {k : Nat} {f C : Addr} {fd : FuncData} {ps ks : List Str} {sp : Sp} {E : XK} {x m : Str} {p pos apos kpos : Pos} {e o : Expr} {es : List Expr} {kws : List Keyword} {te ta : TE} {t tk : TA} {nm : Option Str}
theorem pk_nil : PK X [] tNil := fun _ _ _ _ H Q I h => wpAny_evalAll_nil ⟨[], H, I, .nil, h⟩
theorem pk_cons (ha : PE X e te) (hr : PK X kws t) : PK X (⟨nm, e, kpos⟩ :: kws) (tCons te t) := by
  intro pos pins s σ H Q I h
  show wpAny _ _ (evalAll ((do let v ← eval e X.env; standAt pos; pure v) :: (backToKw pos (keywordEach kws X.env)).map (·.2))) _ _ s
  refine wpAny_evalAll_cons (wpAny_bind (thn (ha pins s σ H _ I h) fun u s1 ⟨x, H1, I1, r1, q1⟩ => wpAny_bind (wpAny_standAt (wpAny_pure ?_))))
  exact thn (hr pos pins s1 σ H1 _ I1 q1) fun us s2 ⟨xs, H2, I2, r2, q2⟩ => ⟨x :: xs, H2, I2, .cons r1 r2, q2⟩

/-- how a call with keywords binds: g puts the positional values us and the keywords' values ws (names ks) in the parameters' order, defaults among them -/
structure KBinds (K : PySem.W.Frag) (fd : FuncData) (ps ks : List Str) (g : List Value → List Value → List Value) (gV : List V → List V → List V) : Prop where
  to : ∀ (s : Shared) (us ws : List Value), K.In s.heap → (g us ws).length = ps.length → BindsTo s fd ⟨us, ks.zip ws⟩ (ps.zip (g us ws))
  rel : ∀ {vs : List V} {us : List Value} {zs : List V} {ws : List Value}, Vals vs us → Vals zs ws → Vals (gV vs zs) (g us ws)
def tCallK (sp : Sp) (gV : List V → List V → List V) (E : XK) (t tk : TA) : TE := fun σ H Q => t σ H fun vs H1 => tk σ H1 fun zs H2 => sp (gV vs zs) H2 Q E
variable {g : List Value → List Value → List Value} {gV : List V → List V → List V}
theorem run_fnk {pins : List (Addr × Obj)} {σ : St} {H : Hp} {s : Shared} {Q : VK} {us ws : List Value} {vs zs : List V} (F : FnOk X.prog X.w X.K X.mg X.base CX k f fd ps sp) (hr : Room k X.A) (hb : KBinds X.K fd ps ks g gV) (hx : Passes CX X E)
    (I : Inv X pins σ H s) (r : Vals vs us) (rz : Vals zs ws) (h : sp (gV vs zs) H Q E) : wpAny (model X.prog X.w) X.A (call (.ref f) us (ks.zip ws)) (EP X pins σ Q) X.xe s := by
  have r2 := hb.rel r rz
  have hl : (g us ws).length = ps.length := by rw [← r2.length]; exact F.len _ _ _ _ h
  refine wpAny_call (codeAny_mono (F.run X.A X.stack s H ⟨us, ks.zip ws⟩ (g us ws) (gV vs zs) Q E hr I.env0 (hb.to s us ws I.kIn hl) r2 h) fun r s' hq => ?_)
  cases r with
  | error e => exact hx pins σ H s e s' I hq
  | ok fl =>
    cases fl with
    | ret u => exact I.after hq
    | next => exact False.elim hq
    | brk => exact False.elim hq
    | cont => exact False.elim hq
/-- f(e, .., k = v, ..) -/
theorem pe_callK (F : FnOk X.prog X.w X.K X.mg X.base CX k f fd ps sp) (hr : Room k X.A) (hg : Gl X x) (hm : X.mg x = some (.ref f)) (hk : PySem.W.keepIn X.K (.ref f) = true) (hb : KBinds X.K fd ps ks g gV) (hx : Passes CX X E)
    (ha : PA X (e :: es) t) (hkw : PK X kws tk) (hall : (backToKw pos (keywordEach kws X.env)).all (·.1.isSome) = true := by rfl) (hks : (backToKw pos (keywordEach kws X.env)).filterMap (·.1) = ks := by rfl)
    (hdb : (x == ("__debug__" : Str)) = false := by decide) (he : starEach (e :: es) X.env = (false, eval e X.env) :: starEach es X.env := by rfl)
    (hpl : ((backTo pos (starEach (e :: es) X.env)).any (·.1) || (backToKw pos (keywordEach kws X.env)).any (·.1.isNone)) = false := by rfl) :
    PE X (.Call (.Name x p) (e :: es) kws pos) (tCallK sp gV E t tk) := by
  intro pins s σ H Q I h
  refine wpAny_Call_Name_kw (ld_glob I hg hm ?_ hdb)
  refine PySem.W.callWith_KW (h₀ := X.base) I.ok.mod.kin hk hall (thn (ha pos pins s σ H _ I h) fun us s1 ⟨vs, H1, I1, r, q⟩ => ?_) hpl he
  refine thn (hkw pos pins s1 σ H1 _ I1 q) fun ws s2 ⟨zs, H2, I2, rz, q2⟩ => ⟨I2.kIn, ?_⟩
  rw [hks]
  exact run_fnk F hr hb hx I2 r rz q2
end

/-! ### a def's body keeps its promise -/
/-- names: the parameters first -/
structure FnScope (N P : List Str) (sc : Scope) : Prop where
  kind : sc.kind = .function
  co : sc.isCoroutine = false
  gen : sc.isGenerator = false
  nd : N.Nodup
  pre : N.take P.length = P
  par : ∀ x ∈ P, sc.names.lookup x = some .local ∨ sc.names.lookup x = some .cell
  nofree : ∀ y ∈ sc.names, y.2 ≠ .free

theorem bindL_out {kindOf : Str → Option NameKind} {x : Str} : ∀ {binds : List (Str × Value)} {m : Str → Option Value}, (∀ v, (x, v) ∉ binds) → bindL kindOf binds m x = m x
  | [], _, _ => rfl
  | (n, v) :: r, m, h => by
    unfold bindL
    rw [bindL_out fun w hw => h w (List.mem_cons_of_mem _ hw)]
    split
    · have : x ≠ n := by rintro rfl; exact h v List.mem_cons_self
      simp [this]
    · rfl
theorem bindC_out {kindOf : Str → Option NameKind} {x : Str} : ∀ {binds : List (Str × Value)} {m : Str → Option Value}, (∀ v, (x, v) ∉ binds) → bindC kindOf binds m x = m x
  | [], _, _ => rfl
  | (n, v) :: r, m, h => by
    unfold bindC
    rw [bindC_out fun w hw => h w (List.mem_cons_of_mem _ hw)]
    split
    · rfl
    · have : x ≠ n := by rintro rfl; exact h v List.mem_cons_self
      simp [this]
theorem bindL_get {kindOf : Str → Option NameKind} {x : Str} {v : Value} : ∀ {P : List Str} {vs : List Value} {i : Nat} {m : Str → Option Value}, P.Nodup → P[i]? = some x → vs[i]? = some v → kindOf x = some .local →
    bindL kindOf (P.zip vs) m x = some v
  | [], _, _, _, _, h, _, _ => by simp at h
  | _ :: _, [], _, _, _, _, h, _ => by simp at h
  | p :: P, w :: vs, 0, m, nd, h1, h2, hk => by
    simp at h1 h2; subst h1; subst h2
    show bindL kindOf ((p, w) :: P.zip vs) m p = _
    unfold bindL
    rw [bindL_out fun v hv => (List.nodup_cons.mp nd).1 (List.of_mem_zip hv).1, if_pos hk]
    simp
  | p :: P, w :: vs, i + 1, m, nd, h1, h2, hk => by
    show bindL kindOf ((p, w) :: P.zip vs) m x = _
    unfold bindL
    exact bindL_get (i := i) (List.nodup_cons.mp nd).2 (by simpa using h1) (by simpa using h2) hk
theorem bindC_get {kindOf : Str → Option NameKind} {x : Str} {v : Value} : ∀ {P : List Str} {vs : List Value} {i : Nat} {m : Str → Option Value}, P.Nodup → P[i]? = some x → vs[i]? = some v → kindOf x ≠ some .local →
    bindC kindOf (P.zip vs) m x = some v
  | [], _, _, _, _, h, _, _ => by simp at h
  | _ :: _, [], _, _, _, _, h, _ => by simp at h
  | p :: P, w :: vs, 0, m, nd, h1, h2, hk => by
    simp at h1 h2; subst h1; subst h2
    show bindC kindOf ((p, w) :: P.zip vs) m p = _
    unfold bindC
    rw [bindC_out fun v hv => (List.nodup_cons.mp nd).1 (List.of_mem_zip hv).1, if_neg hk]
    simp
  | p :: P, w :: vs, i + 1, m, nd, h1, h2, hk => by
    show bindC kindOf ((p, w) :: P.zip vs) m x = _
    unfold bindC
    exact bindC_get (i := i) (List.nodup_cons.mp nd).2 (by simpa using h1) (by simpa using h2) hk

/-- the names' values at the entry -/
def start (N : List Str) (vs : List V) : St := vs.map some ++ List.replicate (N.length - vs.length) none

/-- the context of a def's body, at its entry; an exception leaves the frame, then lies as CX says -/
def cxOf (CX : CXT) (P : Program) (w : World) (K : PySem.W.Frag) (mg : Str → Option Value) (base : Heap) (N : List Str) (qual : Str) (scope : Scope) (f : Addr) (cd : Value) (A : Around) (outer : List Env) (s : Shared) (H : Hp) (E : XK) : Cx where
  prog := P
  w := w
  K := K
  mg := mg
  base := base
  A := A.deeper (envOfC qual scope s.heap.objs.size f cd)
  N := N
  s₀ := s
  H₀ := H
  env := envOfC qual scope s.heap.objs.size f cd
  outer := outer
  stack := envOfC qual scope s.heap.objs.size f cd :: outer
  ex := []
  calm := true
  fn := fun _ => true
  pn := []
  xe := fun e s' => wpAny (model P w) (A.deeper (envOfC qual scope s.heap.objs.size f cd)) (leaving (envOfC qual scope s.heap.objs.size f cd) e) (fun _ s'' => CX outer H s E e s'') (fun e' s'' => CX outer H s E e' s'') s'

theorem cell_has {sc : Scope} {n : Nat} {x : Str} (h : sc.names.lookup x = some .cell) : ∃ c, (cellsFrom n sc.names []).lookup x = some c := by
  have q := PySem.W.cellsFrom_some sc.names n [] (.inl h)
  exact Option.isSome_iff_exists.mp q

theorem inv_start {CX : CXT} {P : Program} {w : World} {K : PySem.W.Frag} {mg : Str → Option Value} {base : Heap} {N ps : List Str} {qual : Str} {scope : Scope} {f : Addr} {cd : Value} {A : Around} {outer : List Env} {s s1 : Shared} {H : Hp} {E : XK} {us : List Value} {vs : List V}
    (S : FnScope N ps scope) (hd : A.handled = none) (e0 : Env0 P w K mg base A outer s H) (hl : vs.length = ps.length) (r : Vals vs us)
    (x : InCallC s s.heap.objs.size (bindL (envOfC qual scope s.heap.objs.size f cd).kindOf (ps.zip us) fun _ => none) (cellsFrom (s.heap.objs.size + 1) scope.names []) (bindC (envOfC qual scope s.heap.objs.size f cd).kindOf (ps.zip us) fun _ => none) s1) :
    Inv (cxOf CX P w K mg base N qual scope f cd A outer s H E) [] (start N vs) H s1 := by
  have hpl : ps.length ≤ N.length := by have := congrArg List.length S.pre; rw [List.length_take] at this; omega
  obtain ⟨h1, tk, rfl, hk⟩ := x.done
  have noA : ∀ b : Addr, b ∉ (cxOf CX P w K mg base N qual scope f cd A outer s H E).ex := fun b z => absurd (show b ∈ ([] : List Addr) from z) (by simp)
  refine ⟨⟨e0.mod, S.kind, rfl, rfl, Nat.le_refl _, fun y z c h1 h2 => ?_, fun y hy => ?_, fun y c _ h => ?_, fun _ => hd, Around.frames_deeper e0.frames, .inr ⟨rfl, rfl⟩, fun b z => absurd z (noA b), e0.bs, e0.bsz, fun b _ _ => noA b, fun b z => absurd z (noA b), e0.funs, e0.frf⟩,
    rfl, e0.bare, Un.kept hk, ⟨_, x.toInCall.ns, fun i y v h1 h2 h3 => ?_⟩, fun y c h => ⟨_, x.cell y c h⟩, e0.hok.fresh (Nat.le_refl _), fun y c h => ?_, fun p hp => absurd (show p ∈ ([] : List (Addr × Obj)) from hp) (by simp), e0.hok.kept hk, ?_⟩
  · exact name_of_addr x.apart (PySem.mem_of_lookup h1) (PySem.mem_of_lookup h2)
  · have hy : scope.names.lookup y = some .cell ∨ scope.names.lookup y = some .free := hy
    rcases hy with hy | hy
    · exact cell_has hy
    · exact absurd rfl (S.nofree _ (PySem.mem_of_lookup hy))
  · exact Nat.le_of_lt (x.above y c (PySem.mem_of_lookup h))
  · have hi : i < vs.length := by
      unfold start at h2
      by_cases hi : i < vs.length
      · exact hi
      · rw [List.getElem?_append_right (by simpa using hi)] at h2
        rw [List.getElem?_replicate] at h2
        split at h2 <;> cases h2
    have ha : vs[i]? = some v := by
      unfold start at h2
      rw [List.getElem?_append_left (by simpa using hi), List.getElem?_map] at h2
      cases e : vs[i]? with
      | none => rw [e] at h2; cases h2
      | some a => rw [e] at h2; cases h2; rfl
    obtain ⟨u, hu, rv⟩ := r.get ha
    have hp : ps[i]? = some y := by
      rw [← S.pre, List.getElem?_take_of_lt (by omega)]; exact h1
    have ndP : ps.Nodup := by rw [← S.pre]; exact S.nd.sublist (List.take_sublist _ _)
    refine ⟨u, rv, ?_⟩
    rcases S.par y (List.mem_of_getElem? hp) with k | k
    · exact .inl ⟨k, bindL_get ndP hp hu k⟩
    · obtain ⟨c, e⟩ := cell_has (n := s.heap.objs.size + 1) k
      refine .inr ⟨.inl k, c, e, ?_⟩
      have q := x.cell y c e
      rw [bindC_get ndP hp hu (by show scope.names.lookup y ≠ _; rw [k]; decide)] at q
      exact q
  · exact e0.hok.fresh (Nat.le_of_lt (x.above y c (PySem.mem_of_lookup h)))
  · unfold start
    show _ = N.length
    rw [List.length_append, List.length_map, List.length_replicate]
    omega

/-- THE RULE: a def (or a method) of the text, by its body. The body's reading t is chosen for each entry; it is run at the parameters' values -/
theorem fn_of {CX : CXT} {P : Program} {w : World} {K : PySem.W.Frag} {mg : Str → Option Value} {base : Heap} {k : Nat} {f : Addr} {name qual : Str} {params : Arguments} {body : List Stmt} {scope : Scope} {dV kV doc pm cdv ct oc : Value} {an od : Option Addr}
    {osl : Array (Option Value)} {N ps : List Str} {sp : Sp} (lk : K.lookup f = some ⟨oc, od, .func (PySem.W.fnOf name qual params body scope dV kV doc pm an cdv ct), osl⟩) (hcd : PySem.W.codeIn K cdv qual = true) (S : FnScope N ps scope)
    (len : ∀ vs H Q E, sp vs H Q E → vs.length = ps.length)
    (hbody : ∀ (A : Around) (outer : List Env) (s : Shared) (H : Hp) (vs : List V) (Q : VK) (E : XK), Room k (A.deeper (envOfC qual scope s.heap.objs.size f cdv)) → sp vs H Q E →
      ∃ t, PSs (cxOf CX P w K mg base N qual scope f cdv A outer s H E) body t ∧ t { nx := fun _ H' => Q .non H', rt := Q } (start N vs) H) :
    FnOk P w K mg base CX (k + 1) f (PySem.W.fnOf name qual params body scope dV kV doc pm an cdv ct) ps sp := by
  refine ⟨len, fun A outer s H args us vs Q E hr e0 hb r hsp => ?_⟩
  have hl := len _ _ _ _ hsp
  have KX : K.In s.heap := e0.mod.kin.keeps fun b o e => (e0.bs b o e).1
  have lim : s.heap.NoLimit := e0.mod.nolimit.keeps fun b o e => (e0.bs b o e).1
  have hkind : ∀ y ∈ ps.zip us, scope.names.lookup y.1 = some .local ∨ (scope.names.lookup y.1 = some .cell ∧ ((cellsFrom (s.heap.objs.size + 1) scope.names []).lookup y.1).isSome = true) := fun ⟨n, v⟩ hy => by
    rcases S.par n (List.of_mem_zip hy).1 with q | q
    · exact .inl q
    · exact .inr ⟨q, PySem.W.cellsFrom_some _ _ _ (.inl q)⟩
  refine codeAny_call_function hr.depth (KX _ _ lk) rfl S.co S.gen rfl (PySem.W.codeRec_of KX hcd) (hb _ _ _ _ ?_)
  refine wpAny_newFunctionEnv_cells S.kind hkind fun env he s1 x => ?_
  subst he
  refine ⟨lim.keeps x.toInCall.keep, codeAny_func ?_⟩
  obtain ⟨t, ht, hq⟩ := hbody A outer s H vs Q E (hr.deeper _) hsp
  have I : Inv (cxOf CX P w K mg base N qual scope f cdv A outer s H E) [] (start N vs) H s1 := inv_start S hr.hd e0 hl r x
  refine wpAny_mono (ht [] s1 (start N vs) H _ I hq) (fun fl s' hs => ?_) fun e s' hs => hs
  have fin : ∀ {σ' : St} {H' : Hp} {v : V} {u : Value}, Inv (cxOf CX P w K mg base N qual scope f cdv A outer s H E) [] σ' H' s' → RelV v u → Q v H' → CE outer P w H s Q u s' :=
    fun {σ' H' v u} J rv q => ⟨v, H', J.os, J.bare, J.base, J.hok, rv, q⟩
  cases fl with
  | ret u =>
    obtain ⟨v, σ', H', J, rv, q⟩ := hs
    exact fin J rv q
  | next =>
    obtain ⟨σ', H', J, q⟩ := hs
    exact fin (v := V.non) (u := Value.none) J rfl q
  | brk =>
    obtain ⟨_, _, _, q⟩ := hs
    exact False.elim q
  | cont =>
    obtain ⟨_, _, _, q⟩ := hs
    exact False.elim q
end L2

namespace L2
open PySem PySem.Spec PyProof.Rows
section
variable {X : Cx} {x : Str} {p pos : Pos} {e : Expr} {es : List Expr} {t : TA} {id T : String} {r : List V → Hp → VK → Prop}

def tCB (r : List V → Hp → VK → Prop) (t : TA) : TE := fun σ H Q => t σ H fun vs H1 => r vs H1 Q
/-- f(e, ..), f a built-in function -/
theorem pe_callB (hc : CallR X (.builtin id) r) (hg : Gl X x) (hm : X.mg x = none) (hv : bootBuiltins x = some (.builtin id)) (ha : PA X (e :: es) t) (hn : x ≠ "__name__" := by decide) (hdb : (x == ("__debug__" : Str)) = false := by decide)
    (he : starEach (e :: es) X.env = (false, eval e X.env) :: starEach es X.env := by rfl) (hpl : (backTo pos (starEach es X.env)).any (·.1) = false := by rfl) : PE X (.Call (.Name x p) (e :: es) [] pos) (tCB r t) := by
  intro pins s σ H Q I h
  refine wpAny_Call_Name_kw (ld_blt I hg hm hv ?_ hn hdb)
  exact PyProof.Rows.callWith_builtin1 (thn (ha pos pins s σ H _ I h) fun us s1 ⟨vs, H1, I1, r1, q1⟩ => hc pins s1 σ H1 vs us Q I1 r1 q1) he hpl
/-- T(e, ..), T a built-in type -/
theorem pe_callTy (hc : CallR X (.type T) r) (hg : Gl X x) (hm : X.mg x = none) (hv : bootBuiltins x = some (.type T)) (ha : PA X (e :: es) t) (hn : x ≠ "__name__" := by decide) (hdb : (x == ("__debug__" : Str)) = false := by decide)
    (he : starEach (e :: es) X.env = (false, eval e X.env) :: starEach es X.env := by rfl) (hpl : (backTo pos (starEach es X.env)).any (·.1) = false := by rfl) : PE X (.Call (.Name x p) (e :: es) [] pos) (tCB r t) := by
  intro pins s σ H Q I h
  refine wpAny_Call_Name_kw (ld_blt I hg hm hv ?_ hn hdb)
  exact PyProof.Rows.callWith_type1 (thn (ha pos pins s σ H _ I h) fun us s1 ⟨vs, H1, I1, r1, q1⟩ => hc pins s1 σ H1 vs us Q I1 r1 q1) he hpl
/-- T() -/
theorem pe_callTy0 (hc : CallR X (.type T) r) (hg : Gl X x) (hm : X.mg x = none) (hv : bootBuiltins x = some (.type T)) (hn : x ≠ "__name__" := by decide) (hdb : (x == ("__debug__" : Str)) = false := by decide) :
    PE X (.Call (.Name x p) [] [] pos) (tCB r tNil) := by
  intro pins s σ H Q I h
  refine wpAny_Call_Name_kw (ld_blt I hg hm hv ?_ hn hdb)
  exact PyProof.Rows.callWith_type0 (hc pins s σ H [] [] Q I .nil h)
end
end L2

namespace HT
open PySem PyProof.Rows

/-- t < u of tuples of ints -/
def lexLt : List Int → List Int → Bool
  | [], [] => false
  | [], _ :: _ => true
  | _ :: _, [] => false
  | x :: xs, y :: ys => if x = y then lexLt xs ys else decide (x < y)
theorem lexLt_cons (x y : Int) (xs ys : List Int) : lexLt (x :: xs) (y :: ys) = if x = y then lexLt xs ys else decide (x < y) := rfl
theorem lexLt_nil_nil : lexLt [] [] = false := rfl
theorem lexLt_nil_cons (y : Int) (ys : List Int) : lexLt [] (y :: ys) = true := rfl
theorem lexLt_cons_nil (x : Int) (xs : List Int) : lexLt (x :: xs) [] = false := rfl

theorem eqAt_int (A : Around) (s : Shared) (a : Int) (t : Tok) (c : Int) (u : Tok) : ∃ e, SeqAt.EqAt A s (.int a t) (.int c u) e ∧ (e = true ↔ a = c) :=
  ⟨(a == c), SeqAt.EqAt.int_int a t c u, by simp⟩
theorem rcLt_int (A : Around) (s : Shared) (a : Int) (t : Tok) (c : Int) (u : Tok) (prog : Program) (w : World) (E : Value → Shared → Prop) (Q : Value → Shared → Prop) (h : Q (.bool (decide (a < c))) s) :
    wpAny (model prog w) A (richCompare .Lt (.int a t) (.int c u)) Q E s :=
  (PyProof.Rows.lt_int h : wpAny (model prog w) A (compareOp .Lt (.int a t) (.int c u)) Q E s)

section
open PySem.SeqAt
open PySem.AutoSeq1 (wpAny_loadPart')
open PySem.MeetsSeq PySem.MeetsSeq2 PySem.MeetsSeq3

theorem tuple_lt_ints (l b : Addr) (items items2 : Array Value) (n n2 : Nat) (dd dd2 : Option Addr) (sl sl2 : Array (Option Value)) (ns ms : List Int) (hi : IntsAre items.toList ns) (hj : IntsAre items2.toList ms) :
    Meets (Builtin.«tuple.__lt__» ⟨[.ref l, .ref b], []⟩)
      (fun _ R s => s.heap.get? l = some { cls := .type "tuple", dict := dd, data := .seq items n, slots := sl } ∧ s.heap.get? b = some { cls := .type "tuple", dict := dd2, data := .seq items2 n2, slots := sl2 } ∧
        R (.ok (.ret (.bool (lexLt ns ms)))) s) :=
  .of_wp fun prog w A R s h => by
    obtain ⟨hp, g, d, tk, os⟩ := s; obtain ⟨hl, hb, h⟩ := h
    have f2 := AutoSeq1.sub_tuple_tuple
    have z1 : items.size = ns.length := by rw [← hi.length]; simp
    have z2 : items2.size = ms.length := by rw [← hj.length]; simp
    wp_walk using wpAny_loadPart' hl, wpAny_loadPart' hb, wpAny_forIn_list _ (fun rest b s' => b.1 = none ∧ s' = ⟨hp, g, d, tk, os⟩ ∧ ∃ (vs ws : List Value) (ns' ms' : List Int), rest = vs.zip ws ∧
      IntsAre vs ns' ∧ IntsAre ws ms' ∧ ns'.length + items2.size = ms'.length + items.size ∧ R (.ok (.ret (.bool (lexLt ns' ms')))) ⟨hp, g, d, tk, os⟩) _
    case turn =>
      rintro ⟨y, x⟩ rest b s' ⟨hb', rfl, vs, ws, ns', ms', hz, hvi, hwi, hlen, hR⟩
      cases hvi with
      | nil => rw [List.zip_nil_left] at hz; cases hz
      | cons a t hvi' =>
        cases hwi with
        | nil => rw [List.zip_nil_right] at hz; cases hz
        | cons c u hwi' =>
          rw [List.zip_cons_cons] at hz
          injection hz with hyx hrest
          injection hyx with hy hx
          subst hy hx
          rw [lexLt_cons] at hR
          simp only [List.length_cons] at hlen
          obtain ⟨e, he, hiff⟩ := eqAt_int A.in1 ⟨hp, g, d, tk, os⟩ a t c u
          refine wpAny_bind (he prog w _ _ ?_)
          cases e with
          | true =>
            rw [if_pos (hiff.mp rfl)] at hR
            wp_walk
            exact ⟨rfl, rfl, _, _, _, _, hrest, hvi', hwi', by omega, hR⟩
          | false =>
            rw [if_neg (fun q => absurd (hiff.mpr q) Bool.false_ne_true)] at hR
            have hri := rcLt_int A.in1 ⟨hp, g, d, tk, os⟩ a t c u prog w
            wp_walk using hri
            exact ⟨_, rfl, by simpa using hR⟩
    case fin =>
      rintro ⟨b1, b2⟩ s' ⟨hb', rfl, vs, ws, ns', ms', hz, hvi, hwi, hlen, hR⟩
      simp only at hb'
      subst hb'
      have hv : lexLt ns' ms' = decide (items.size < items2.size) := by
        cases hvi with
        | nil =>
          cases hwi with
          | nil =>
            simp only [List.length_nil] at hlen
            rw [lexLt_nil_nil]
            exact (decide_eq_false (by omega)).symm
          | cons c u hw =>
            simp only [List.length_nil, List.length_cons] at hlen
            rw [lexLt_nil_cons]
            exact (decide_eq_true (by omega)).symm
        | cons a t hv =>
          cases hwi with
          | nil =>
            simp only [List.length_nil, List.length_cons] at hlen
            rw [lexLt_cons_nil]
            exact (decide_eq_false (by omega)).symm
          | cons c u hw =>
            rw [List.zip_cons_cons] at hz
            cases hz
      rw [hv] at hR
      wp_walk
      exact ⟨_, rfl, by simpa [Builtin.Tuple.tupleCompareSizes] using hR⟩
    case h =>
      exact ⟨rfl, rfl, items.toList, items2.toList, ns, ms, rfl, hi, hj, by omega, h⟩
end

section
variable {prog : Program} {w : World} {A : Around} {E : Value → Shared → Prop} {s : Shared}

theorem lt_tupInts {l b : Addr} {items items2 : Array Value} {ns ms : List Int} {Q : Value → Shared → Prop} (hl : IsTup s.heap l items) (hb : IsTup s.heap b items2) (hi : IntsAre items.toList ns) (hj : IntsAre items2.toList ms)
    (hu : A.units < cLine) (h : Q (.bool (lexLt ns ms)) s) : wpAny (model prog w) A (compareOp .Lt (.ref l) (.ref b)) Q E s := by
  obtain ⟨⟨cls, dd, data, sl⟩, ho, hc, n, hd⟩ := id hl
  obtain ⟨⟨cls2, dd2, data2, sl2⟩, ho2, hc2, n2, hd2⟩ := id hb
  simp only at hc hd hc2 hd2
  subst hc hd hc2 hd2
  exact richCompare_meets_room (op := .Lt) ⟨_, ho, rfl⟩ ⟨_, ho2, rfl⟩ PySem.F.slot_tuple_lt PySem.F.entry_tuple_lt (PySem.F.args_tuple_lt_2 _ _) (tuple_lt_ints l b items items2 n n2 dd dd2 sl sl2 ns ms hi hj)
    ⟨ho, ho2, show Value.bool (lexLt ns ms) ≠ Value.notImplemented ∧ Q (.bool (lexLt ns ms)) s from ⟨(fun x => nomatch x), h⟩⟩ hu

/-- t + u, t not empty -/
theorem cat_tup {t b : Addr} {vs ws : List Value} {Q : Value → Shared → Prop} (ht : IsTup s.heap t vs.toArray) (hb : IsTup s.heap b ws.toArray) (hv : vs ≠ [])
    (h1 : ws = [] → Q (.ref t) s) (h2 : ws ≠ [] → Q (.ref s.heap.objs.size) { s with heap := s.heap.push { cls := .type "tuple", data := .seq (vs ++ ws).toArray } })
    (hsz : vs.length + ws.length ≤ sizeLine) : wpAny (model prog w) A (binaryOp .Add (.ref t) (.ref b)) Q E s := by
  obtain ⟨⟨cls, dd, data, sl⟩, ho, hc, n, hd⟩ := id ht
  obtain ⟨⟨cls2, dd2, data2, sl2⟩, ho2, hc2, n2, hd2⟩ := id hb
  simp only at hc hd hc2 hd2
  subst hc hd hc2 hd2
  have e : vs.toArray ++ ws.toArray = (vs ++ ws).toArray := by simp
  by_cases hw : ws = []
  · exact concat_meets ⟨_, ho, rfl⟩ ⟨_, ho2, rfl⟩ noFill_tuple_add seq_tuple_add PySem.F.slot_tuple_add PySem.F.entry_tuple_add (PySem.F.args_tuple_add_2 _ _)
      (tuple_addW1 t b vs.toArray ws.toArray n n2 dd dd2 sl sl2 (by simpa using hv) (by simp [hw])) ⟨ho, ho2, h1 hw⟩
  · refine concat_meets ⟨_, ho, rfl⟩ ⟨_, ho2, rfl⟩ noFill_tuple_add seq_tuple_add PySem.F.slot_tuple_add PySem.F.entry_tuple_add (PySem.F.args_tuple_add_2 _ _)
      (tuple_addW2 t b vs.toArray ws.toArray n n2 dd dd2 sl sl2 (by simpa using hv) (by simpa using hw) (by rw [List.size_toArray, List.size_toArray]; exact hsz)) ⟨ho, ho2, ?_⟩
    rw [e]
    exact h2 hw

/-! ### t[a:b], not the whole -/
/-- a slice's bound as a place among n (d where it is left out) -/
def sIx (n d : Nat) : Option Int → Nat
  | none => d
  | some v => if v < 0 then (v + (n : Int)).toNat else min v.toNat n
theorem sIx_none (n d : Nat) : sIx n d none = d := rfl
theorem sIx_nat (n d k : Nat) : sIx n d (some (k : Int)) = min k n := by
  show (if (k : Int) < 0 then ((k : Int) + (n : Int)).toNat else min (k : Int).toNat n) = min k n
  rw [if_neg (by omega), Int.toNat_natCast]
theorem sIx_le (n d : Nat) (hd : d ≤ n) (o : Option Int) : sIx n d o ≤ n := by
  cases o with
  | none => exact hd
  | some v =>
    show (if v < 0 then (v + (n : Int)).toNat else min v.toNat n) ≤ n
    by_cases hv : v < 0
    · rw [if_pos hv]; omega
    · rw [if_neg hv]; exact Nat.min_le_right _ _
theorem clip_eq (v : Int) (n d : Nat) : (if v < 0 then max (v + (n : Int)) 0 else min v (n : Int)) = ((sIx n d (some v) : Nat) : Int) := by
  show (if v < 0 then max (v + (n : Int)) 0 else min v (n : Int)) = (((if v < 0 then (v + (n : Int)).toNat else min v.toNat n) : Nat) : Int)
  by_cases hv : v < 0
  · simp only [if_pos hv]; omega
  · simp only [if_neg hv]; omega
theorem adjust_gen (lo hi : Option Int) (n : Nat) : Builtin.Slice.sliceAdjust lo hi 1 (n : Int) = (((sIx n 0 lo : Nat) : Int), ((sIx n n hi : Nat) : Int)) := by
  have h1 : ¬ ((1 : Int) < 0) := by omega
  unfold Builtin.Slice.sliceAdjust
  simp only [h1, if_false]
  refine Prod.ext ?_ ?_
  · cases lo with
    | none => rfl
    | some v => exact clip_eq v n 0
  · cases hi with
    | none => rfl
    | some v => exact clip_eq v n n
theorem places_gen (i j : Nat) : Builtin.Slice.slicePlaces (i : Int) (j : Int) 1 = j - i := by
  unfold Builtin.Slice.slicePlaces
  have h1 : (1 : Int) > 0 := by omega
  simp only [h1, if_true, Int.ediv_one]
  split <;> omega
theorem slicePart_ {v : Value} {o : Option Int} {Q : Option Int → Shared → Prop} (p : IsPart v o) (h : Q o s) : wpAny (model prog w) A (Builtin.Slice.slicePartIndex v) Q E s := by
  cases p with
  | none => exact slicePart_none h
  | int i t => exact slicePart_int h
theorem sliceApplied_gen {sl : Addr} {vl vu : Value} {lo hi : Option Int} {n : Nat} {Q : Int × Int × Nat → Shared → Prop} (hs : s.heap.IsSliceOf sl vl vu .none) (pl : IsPart vl lo) (pu : IsPart vu hi)
    (h : Q (((sIx n 0 lo : Nat) : Int), 1, sIx n n hi - sIx n 0 lo) s) : wpAny (model prog w) A (Builtin.Slice.sliceApplied (.ref sl) (pure (n : Int))) Q E s := by
  obtain ⟨os, hos, hcs, hds⟩ := id hs
  unfold Builtin.Slice.sliceApplied Builtin.Slice.sliceFields
  refine wpAny_bind (wpAny_bind (wpAny_field hos hds (x := vl) rfl (wpAny_bind (wpAny_field hos hds (x := vu) rfl (wpAny_bind (wpAny_field hos hds (x := .none) rfl (wpAny_pure ?_)))))))
  refine wpAny_bind (slicePart_none ?_)
  show wpAny _ _ (if ((1 : Int) == 0) = true then _ else _) _ _ s
  rw [if_neg (by decide)]
  refine wpAny_bind (slicePart_ pl (wpAny_bind (slicePart_ pu (wpAny_bind (wpAny_pure ?_)))))
  show wpAny _ _ (match Builtin.Slice.sliceAdjust lo hi 1 (n : Int) with | (lo, hi) => pure (lo, (1 : Int), Builtin.Slice.slicePlaces lo hi 1)) _ _ s
  rw [adjust_gen lo hi n]
  show wpAny _ _ (pure (((sIx n 0 lo : Nat) : Int), (1 : Int), Builtin.Slice.slicePlaces ((sIx n 0 lo : Nat) : Int) ((sIx n n hi : Nat) : Int) 1)) _ _ s
  rw [places_gen]
  exact wpAny_pure h
theorem pick_gen (xs : Array Value) (i k : Nat) : ((List.range k).filterMap fun (m : Nat) => xs[((i : Int) + (m : Int) * 1).toNat]?).toArray = ((xs.toList.drop i).take k).toArray := by
  have e : (fun (m : Nat) => xs[((i : Int) + (m : Int) * 1).toNat]?) = fun m => xs[i + m]? := by
    funext m
    have : ((i : Int) + (m : Int) * 1).toNat = i + m := by omega
    rw [this]
  rw [e]
  have := pick_run xs i k
  rw [List.filterMap_map] at this
  have e2 : ((fun x => xs[x]?) ∘ fun x => i + x) = fun m => xs[i + m]? := rfl
  rw [e2] at this
  rw [this]

theorem getItem_tuple_cut {t sl : Addr} {items : Array Value} {vl vu : Value} {lo hi : Option Int} {Q : Value → Shared → Prop} (ht : IsTup s.heap t items) (hs : s.heap.IsSliceOf sl vl vu .none) (pl : IsPart vl lo) (pu : IsPart vu hi)
    (hw : ¬ (sIx items.size 0 lo = 0 ∧ sIx items.size items.size hi = items.size))
    (h : Q (.ref s.heap.objs.size) { s with heap := s.heap.push { cls := .type "tuple", data := .seq ((items.toList.drop (sIx items.size 0 lo)).take (sIx items.size items.size hi - sIx items.size 0 lo)).toArray } })
    (hsz : items.size ≤ sizeLine) : wpAny (model prog w) A (getItem (.ref t) (.ref sl)) Q E s := by
  have htake : sizeOk (.seq ((items.toList.drop (sIx items.size 0 lo)).take (sIx items.size items.size hi - sIx items.size 0 lo)).toArray) := by
    show ((items.toList.drop (sIx items.size 0 lo)).take (sIx items.size items.size hi - sIx items.size 0 lo)).toArray.size ≤ sizeLine
    rw [List.size_toArray, List.length_take, List.length_drop, Array.length_toList]
    omega
  have hj : sIx items.size items.size hi ≤ items.size := sIx_le _ _ (Nat.le_refl _) hi
  obtain ⟨os, hos, hcs, hds⟩ := id hs
  have hTs : s.TypeIs (.ref sl) "slice" := ⟨os, hos, hcs⟩
  unfold getItem
  try with_reducible refine wpAny_holding ?_
  first | refine wpAny_bind (wpAny_pure ?_) | skip
  refine wpAny_bind (wpAny_sequenceKey ht.typeIs (by decide) ?_)
  refine wpAny_bind (wpAny_callSpecial?_slot (name := Str.ofString "__getitem__") ht.typeIs PyProof.Rows.slot_tuple_getitem
    (wpAny_call_entry PyProof.Rows.slot_tuple_getitem ht.typeIs entry_tuple_getitem ?_ (args_tuple_getitem _ _)))
  show wpAny _ _ (Builtin.Tuple.tupleItemsOf (.ref t) >>= _) _ _ s
  refine wpAny_bind (tupleItemsOf_ ht ?_)
  refine wpAny_bind (wpAny_typeOf hTs ?_)
  rw [if_pos (by decide)]
  refine wpAny_bind (sliceApplied_gen hs pl pu ?_)
  have hno : ¬ ((((sIx items.size 0 lo : Nat) : Int) == 0 && (1 : Int) == 1 && (sIx items.size items.size hi - sIx items.size 0 lo) == items.size) = true) := by
    intro q
    rw [Bool.and_eq_true, Bool.and_eq_true] at q
    have q1 : ((sIx items.size 0 lo : Nat) : Int) = 0 := eq_of_beq q.1.1
    have q2 : sIx items.size items.size hi - sIx items.size 0 lo = items.size := eq_of_beq q.2
    exact hw ⟨by omega, by omega⟩
  show wpAny _ _ (if (((sIx items.size 0 lo : Nat) : Int) == 0 && (1 : Int) == 1 && (sIx items.size items.size hi - sIx items.size 0 lo) == items.size) = true then _ else _) _ _ s
  rw [if_neg hno, pick_gen]
  first
    | exact wpAny_bind (m := Builtin.Tuple.tupleExact _) (wpAny_newObj_type (wpAny_pure ⟨_, rfl, wpAny_pure h⟩) htake)
    | exact wpAny_bind (m := Builtin.Tuple.tupleExact _) (wpAny_newObj_type (wpAny_bind (wpAny_pure (wpAny_pure ⟨_, rfl, wpAny_pure h⟩))) htake)
    | exact wpAny_bind (wpAny_bind (m := Builtin.Tuple.tupleExact _) (wpAny_newObj_type (wpAny_pure (wpAny_pure ⟨_, rfl, wpAny_pure h⟩)) htake))
    | exact wpAny_bind (wpAny_bind (m := Builtin.Tuple.tupleExact _) (wpAny_newObj_type (wpAny_pure ⟨_, rfl, wpAny_pure h⟩) htake))
end
end HT

namespace L2
open PySem PySem.Spec PyProof.Rows

/-! ### the parts of a slice -/
abbrev TO := St → Hp → (Option Int → Hp → Prop) → Prop
/-- a slice's part (left out, or an int) -/
def PO (X : Cx) (e : Option Expr) (t : TO) : Prop :=
  ∀ (pins : List (Addr × Obj)) (s : Shared) (σ : St) (H : Hp) (Q : Option Int → Hp → Prop), Inv X pins σ H s → t σ H Q →
    wpAny (model X.prog X.w) X.A (evalPart e X.env) (fun u s' => ∃ o H', Inv X pins σ H' s' ∧ IsPart u o ∧ Q o H') X.xe s
def tNoPart : TO := fun _ H Q => Q none H
def tPart (t : TE) : TO := fun σ H Q => t σ H fun x H1 => ∃ i, x = .int i ∧ Q (some i) H1

theorem intsAre_of {ns : List Int} : ∀ {us : List Value}, Vals (ns.map V.int) us → IntsAre us ns := by
  induction ns with
  | nil => intro us r; rw [List.map_nil] at r; cases r; exact .nil
  | cons n ns ih =>
    intro us r
    rw [List.map_cons] at r
    cases r with
    | cons r1 r2 =>
      obtain ⟨t, e⟩ := r1
      subst e
      exact .cons n t (ih r2)

section
variable {X : Cx} {e : Expr} {te : TE} {lo hi : Option Expr} {tl th : TO} {pos p2 : Pos}

theorem po_none : PO X none tNoPart := by
  intro pins s σ H Q I h
  rw [evalPart_none]
  exact wpAny_pure ⟨none, H, I, .none, h⟩
theorem po_some (h : PE X e te) : PO X (some e) (tPart te) := by
  intro pins s σ H Q I hw
  rw [evalPart_some]
  refine thn (h pins s σ H _ I hw) fun u s1 ⟨x, H1, I1, r1, q1⟩ => ?_
  obtain ⟨i, rfl, q⟩ := q1
  obtain ⟨t, rfl⟩ := r1
  exact ⟨some i, H1, I1, .int i t, q⟩

/-- what a slice of a value is, by values: the slice object stands at sl -/
def SlR (X : Cx) (r : V → Option Int → Option Int → Hp → VK → Prop) : Prop :=
  ∀ (pins : List (Addr × Obj)) (s : Shared) (σ : St) (H : Hp) (x : V) (v vl vu : Value) (lo hi : Option Int) (sl : Addr) (Q : VK), Inv X pins σ H s → RelV x v → s.heap.IsSliceOf sl vl vu .none → IsPart vl lo → IsPart vu hi → r x lo hi H Q →
    ∃ T id, typeLookup (.type T) "__getitem__" = pure (some (.builtin id)) ∧ s.TypeIs v T ∧ wpAny (model X.prog X.w) X.A (getItem v (.ref sl)) (EP X pins σ Q) X.xe s
theorem SlR.or {r r' : V → Option Int → Option Int → Hp → VK → Prop} (h : SlR X r) (h' : SlR X r') : SlR X (fun x lo hi H Q => r x lo hi H Q ∨ r' x lo hi H Q) := by
  intro pins s σ H x v vl vu lo hi sl Q I rx hs pl pu q
  rcases q with q | q
  · exact h pins s σ H x v vl vu lo hi sl Q I rx hs pl pu q
  · exact h' pins s σ H x v vl vu lo hi sl Q I rx hs pl pu q
def tSl (r : V → Option Int → Option Int → Hp → VK → Prop) (te : TE) (tl th : TO) : TE := fun σ H Q => te σ H fun x H1 => tl σ H1 fun l H2 => th σ H2 fun u H3 => r x l u H3 Q
/-- a[lo:hi], any a -/
theorem pe_slice {r : V → Option Int → Option Int → Hp → VK → Prop} (hr : SlR X r) (he : PE X e te) (hl : PO X lo tl) (hu : PO X hi th) : PE X (.Subscript e (.Slice lo hi none p2) pos) (tSl r te tl th) := by
  intro pins s σ H Q I h
  refine Subscript_ (thn (he pins s σ H _ I h) fun v s1 ⟨x, H1, I1, r1, q1⟩ => ?_)
  refine wpAny_Slice (thn (hl pins s1 σ H1 _ I1 q1) fun vl s2 ⟨l, H2, I2, pl, q2⟩ => thn (hu pins s2 σ H2 _ I2 q2) fun vu s3 ⟨u, H3, I3, pu, q3⟩ => ?_)
  rw [evalPart_none]
  refine wpAny_pure ?_
  have I4 : Inv X pins σ H3 { s3 with heap := s3.heap.push { cls := .type "slice", data := .fields #[vl, vu, .none] } } := I3.kept (t' := s3.toks) fun b ob q => Heap.get?_push_of_some _ q
  obtain ⟨T, id, hT, ht, hg⟩ := hr pins { s3 with heap := s3.heap.push { cls := .type "slice", data := .fields #[vl, vu, .none] } } σ H3 x v vl vu l u s3.heap.objs.size Q I4 r1 (Heap.IsSliceOf.new ..) pl pu q3
  show wpAny (model X.prog X.w) X.A (subscriptTail e (.Slice lo hi none p2) v (.ref s3.heap.objs.size)) (EP X pins σ Q) X.xe { s3 with heap := s3.heap.push { cls := .type "slice", data := .fields #[vl, vu, .none] } }
  exact tail_any (ops := [.ref s3.heap.objs.size, v]) ht hT hg (by with_unfolding_all rfl)

/-- the items of xs[lo:hi] -/
def cutV (xs : List V) (lo hi : Option Int) : List V := (xs.drop (HT.sIx xs.length 0 lo)).take (HT.sIx xs.length xs.length hi - HT.sIx xs.length 0 lo)
theorem cutV_length (xs : List V) (lo hi : Option Int) : (cutV xs lo hi).length ≤ xs.length := by
  unfold cutV
  rw [List.length_take, List.length_drop]
  omega
/-- t[lo:hi], not the whole of it (the whole would be t itself) -/
def rSlT (K : PySem.W.Frag) : V → Option Int → Option Int → Hp → VK → Prop := fun x lo hi H Q => ∃ a xs, x = .ref a ∧ SqT K H a xs ∧
  ¬ (HT.sIx xs.length 0 lo = 0 ∧ HT.sIx xs.length xs.length hi = xs.length) ∧ ∀ p, H p = none → Q (.ref p) (upd H p (.tup (cutV xs lo hi)))
theorem sl_tup : SlR X (rSlT X.K) := by
  intro pins s σ H x v vl vu lo hi sl Q I rx hs pl pu h
  obtain ⟨a, xs, rfl, hx, hw, q⟩ := h
  cases rx
  obtain ⟨its, r, ht, hz⟩ := I.tuple hx
  have hlen : its.toArray.size = xs.length := by rw [List.size_toArray]; exact r.length.symm
  refine ⟨"tuple", _, PyProof.Rows.slot_tuple_getitem.lookup, ht.typeIs, ?_⟩
  refine HT.getItem_tuple_cut ht hs pl pu (by rw [hlen]; exact hw) ?_ (by rw [hlen]; exact hz)
  rw [hlen]
  refine ⟨.ref s.heap.objs.size, _, I.laid (t' := s.toks) (o := .tup (cutV xs lo hi)) (fun b ob q => Heap.get?_push_of_some _ q) (Nat.le_refl _) ?_, rfl, q _ (I.hok.fresh (Nat.le_refl _))⟩
  exact ⟨Nat.le_trans (cutV_length xs lo hi) hz, _, (r.drop (HT.sIx xs.length 0 lo)).take (HT.sIx xs.length xs.length hi - HT.sIx xs.length 0 lo), IsTup.new _ _⟩

/-! ### t < u, t + u -/
def rLtT (K : PySem.W.Frag) : R2 := fun x y H Q => ∃ a b ns ms, x = .ref a ∧ y = .ref b ∧ SqT K H a (ns.map V.int) ∧ SqT K H b (ms.map V.int) ∧ Q (.bl (HT.lexLt ns ms)) H
theorem op_ltT (hu : X.A.units < cLine) : OpR X (compareOp .Lt) (rLtT X.K) := by
  intro pins s σ H x y v u Q I rx ry h
  obtain ⟨a, b, ns, ms, rfl, rfl, ha, hb, q⟩ := h
  cases rx
  cases ry
  obtain ⟨its, r1, p1, _⟩ := I.tuple ha
  obtain ⟨its2, r2, p2, _⟩ := I.tuple hb
  have i1 : IntsAre its.toArray.toList ns := intsAre_of r1
  have i2 : IntsAre its2.toArray.toList ms := intsAre_of r2
  exact HT.lt_tupInts p1 p2 i1 i2 hu ⟨.bl (HT.lexLt ns ms), H, I, rfl, q⟩
/-- t + u, t not empty: u empty gives t itself -/
def rCatT (K : PySem.W.Frag) : R2 := fun x y H Q => ∃ a b xs ys, x = .ref a ∧ y = .ref b ∧ SqT K H a xs ∧ SqT K H b ys ∧ xs ≠ [] ∧ xs.length + ys.length ≤ sizeLine ∧
  (ys = [] → Q (.ref a) H) ∧ (ys ≠ [] → ∀ p, H p = none → Q (.ref p) (upd H p (.tup (xs ++ ys))))
theorem Vals.nil_iff {xs : List V} {us : List Value} (r : Vals xs us) : us = [] ↔ xs = [] := by
  cases r with
  | nil => simp
  | cons _ _ => simp
theorem op_catT : OpR X (binaryOp .Add) (rCatT X.K) := by
  intro pins s σ H x y v u Q I rx ry h
  obtain ⟨a, b, xs, ys, rfl, rfl, ha, hb, hx, hz, q1, q2⟩ := h
  cases rx
  cases ry
  obtain ⟨its, r1, p1, _⟩ := I.tuple ha
  obtain ⟨its2, r2, p2, _⟩ := I.tuple hb
  refine HT.cat_tup p1 p2 (fun z => hx (r1.nil_iff.mp z)) (fun z => ⟨.ref a, H, I, rfl, q1 (r2.nil_iff.mp z)⟩) (fun z => ?_) (by rw [← r1.length, ← r2.length]; exact hz)
  refine ⟨.ref s.heap.objs.size, _, I.laid (t' := s.toks) (o := .tup (xs ++ ys)) (fun b ob q => Heap.get?_push_of_some _ q) (Nat.le_refl _) ?_, rfl, q2 (fun w => z (r2.nil_iff.mpr w)) _ (I.hok.fresh (Nat.le_refl _))⟩
  exact ⟨by rw [List.length_append]; exact hz, _, r1.append r2, IsTup.new _ _⟩
/-- tuple(t) -/
theorem call_tupleT : CallR X (.type "tuple") (fun xs H Q => ∃ a ys, xs = [.ref a] ∧ SqT X.K H a ys ∧ Q (.ref a) H) := by
  intro pins s σ H xs us Q I r h
  obtain ⟨a, ys, rfl, ha, q⟩ := h
  obtain ⟨u, rfl, ru⟩ := vals1 r
  cases ru
  obtain ⟨its, _, p1, _⟩ := I.tuple ha
  exact call_tuple_same (items := its.toArray) p1 ⟨.ref a, H, I, rfl, q⟩
end
end L2

namespace L2
open PySem PySem.Spec PyProof.Rows

/-! ### places -/
/-- the place that an index of any sign means -/
def ixN (n : Nat) (i : Int) : Option Nat := if 0 ≤ i then (if i < n then some i.toNat else none) else if -(n : Int) ≤ i then some (i + n).toNat else none
def atI {α : Type} (xs : List α) (i : Int) : Option α := (ixN xs.length i).bind fun j => xs[j]?
theorem ixN_seq {n : Nat} {i : Int} {j : Nat} (h : ixN n i = some j) : seqIndex? i n = some j ∧ j < n ∧ -(n : Int) ≤ i ∧ i < n := by
  unfold ixN at h
  by_cases h0 : 0 ≤ i
  · rw [if_pos h0] at h
    by_cases h1 : i < n
    · rw [if_pos h1] at h
      have e : i.toNat = j := Option.some.inj h
      exact ⟨by rw [seqIndex_of h0 h1, e], by omega, by omega, h1⟩
    · rw [if_neg h1] at h; cases h
  · rw [if_neg h0] at h
    by_cases h1 : -(n : Int) ≤ i
    · rw [if_pos h1] at h
      have e : (i + n).toNat = j := Option.some.inj h
      exact ⟨by rw [seqIndex_neg (by omega) h1, e], by omega, h1, by omega⟩
    · rw [if_neg h1] at h; cases h
theorem atI_get {α : Type} {xs : List α} {i : Int} {v : α} (h : atI xs i = some v) : ∃ j, seqIndex? i xs.length = some j ∧ xs[j]? = some v ∧ j < xs.length ∧ -(xs.length : Int) ≤ i ∧ i < xs.length := by
  unfold atI at h
  cases e : ixN xs.length i with
  | none => rw [e] at h; cases h
  | some j =>
    rw [e] at h
    obtain ⟨h1, h2, h3, h4⟩ := ixN_seq e
    exact ⟨j, h1, h, h2, h3, h4⟩
theorem atI_nat {α : Type} {xs : List α} {j : Nat} {v : α} (h : xs[j]? = some v) : atI xs (j : Int) = some v := by
  have hj : j < xs.length := (List.getElem?_eq_some_iff.mp h).1
  have e : ixN xs.length (j : Int) = some j := by
    unfold ixN
    rw [if_pos (by omega), if_pos (by omega)]; simp
  unfold atI; rw [e]; exact h
theorem atI_last {α : Type} (xs : List α) (v : α) : atI (xs ++ [v]) (-1) = some v := by
  have hl : (xs ++ [v]).length = xs.length + 1 := by simp
  have e : ixN (xs ++ [v]).length (-1) = some xs.length := by
    unfold ixN
    rw [hl, if_neg (by decide), if_pos (by omega)]
    congr 1
    omega
  unfold atI
  rw [e]
  show (xs ++ [v])[xs.length]? = some v
  simp

/-! ### what may be subscripted -/
/-- what stands as an index of a plain subscript -/
def PlainIx (b : Expr) : Prop := ∀ o i, subscripted b false o i = operate [o, i] (getItem o i)
/-- a subscript by values -/
def IxR (X : Cx) (r : R2) : Prop :=
  ∀ (value slice : Expr) (pins : List (Addr × Obj)) (s : Shared) (σ : St) (H : Hp) (x y : V) (v u : Value) (Q : VK), Inv X pins σ H s → RelV x v → RelV y u → r x y H Q →
    subscripted slice false v u = operate [v, u] (getItem v u) → wpAny (model X.prog X.w) X.A (subscriptTail value slice v u) (EP X pins σ Q) X.xe s
/-- a call of a builtin's method by values: the receiver, the arguments -/
def MtR (X : Cx) (id : String) (r : V → List V → Hp → VK → Prop) : Prop :=
  ∀ (pins : List (Addr × Obj)) (s : Shared) (σ : St) (H : Hp) (x : V) (xs : List V) (v : Value) (us : List Value) (Q : VK), Inv X pins σ H s → RelV x v → Vals xs us → r x xs H Q →
    wpAny (model X.prog X.w) X.A (call (.builtin id) (v :: us)) (EP X pins σ Q) X.xe s
section
variable {X : Cx} {a b : Expr} {ta tb : TE} {pos : Pos}
theorem IxR.or {r r' : R2} (h : IxR X r) (h' : IxR X r') : IxR X (fun x y H Q => r x y H Q ∨ r' x y H Q) := by
  intro value slice pins s σ H x y v u Q I rx ry q hs
  rcases q with q | q
  · exact h value slice pins s σ H x y v u Q I rx ry q hs
  · exact h' value slice pins s σ H x y v u Q I rx ry q hs
theorem MtR.or {id : String} {r r' : V → List V → Hp → VK → Prop} (h : MtR X id r) (h' : MtR X id r') : MtR X id (fun x xs H Q => r x xs H Q ∨ r' x xs H Q) := by
  intro pins s σ H x xs v us Q I rx rs q
  rcases q with q | q
  · exact h pins s σ H x xs v us Q I rx rs q
  · exact h' pins s σ H x xs v us Q I rx rs q
/-- a[b] -/
theorem pe_ix {r : R2} (hr : IxR X r) (ha : PE X a ta) (hb : PE X b tb) (hs : PlainIx b) : PE X (.Subscript a b pos) (tOp r ta tb) := by
  intro pins s σ H Q I h
  exact Subscript_ (binT ha hb I h fun v u s2 x y H2 I2 rx ry q => hr a b pins s2 σ H2 x y v u Q I2 rx ry q (hs _ _))

def rIxL (K : PySem.W.Frag) : R2 := fun x y H Q => ∃ p xs i v, x = .ref p ∧ y = .int i ∧ SqL K H p xs ∧ atI xs i = some v ∧ Q v H
def rIxT (K : PySem.W.Frag) : R2 := fun x y H Q => ∃ p xs i v, x = .ref p ∧ y = .int i ∧ SqT K H p xs ∧ atI xs i = some v ∧ Q v H
def rIxS : R2 := fun x y H Q => ∃ z i c, x = .str z ∧ y = .int i ∧ z.length ≤ sizeLine ∧ atI z.cps.toList i = some c ∧ Q (.str ⟨#[c]⟩) H
theorem ix_list : IxR X (rIxL X.K) := by
  intro value slice pins s σ H x y v u Q I rx ry h hs
  obtain ⟨p, xs, i, z, rfl, rfl, hq, he, q⟩ := h
  cases rx
  obtain ⟨t, rfl⟩ := ry
  obtain ⟨its, r, pl, hz⟩ := I.list hq
  obtain ⟨j, h1, h2, h3, h4, h5⟩ := atI_get he
  obtain ⟨w, ew, rw'⟩ := r.get h2
  have hl := r.length
  have hn := line63
  have fin : EP X pins σ Q w s := ⟨z, H, I, rw', q⟩
  by_cases h0 : 0 ≤ i
  · have hj : i.toNat = j := by
      rw [seqIndex_of h0 h5] at h1
      exact Option.some.inj h1
    exact item_listR pl.isList h0 (by omega) (by rw [hj]; simpa using ew) fin hs
  · have hj : (i + (its.toArray.size : Int)).toNat = j := by
      rw [seqIndex_neg (by omega) h4] at h1
      rw [List.size_toArray, ← hl]
      exact Option.some.inj h1
    exact subscriptTail_builtinR (x := w) pl.isList.typeIs slot_list_getitem.lookup
      (wpAny_getItem_list_neg (Q := fun r s' => r = w ∧ EP X pins σ Q r s') pl.isList (by omega) (by rw [List.size_toArray] <;> omega) (by omega) (by rw [hj]; simpa using ew) ⟨rfl, fin⟩) hs
theorem ix_tup : IxR X (rIxT X.K) := by
  intro value slice pins s σ H x y v u Q I rx ry h hs
  obtain ⟨p, xs, i, z, rfl, rfl, hq, he, q⟩ := h
  cases rx
  obtain ⟨t, rfl⟩ := ry
  obtain ⟨its, r, pl, hz⟩ := I.tuple hq
  obtain ⟨j, h1, h2, h3, h4, h5⟩ := atI_get he
  obtain ⟨w, ew, rw'⟩ := r.get h2
  have hl := r.length
  have hn := line63
  have fin : EP X pins σ Q w s := ⟨z, H, I, rw', q⟩
  exact subscriptTail_builtinR (x := w) pl.typeIs slot_tuple_getitem.lookup
    (getItem_tuple (j := j) (Q := fun r s' => r = w ∧ EP X pins σ Q r s') pl (by omega) (by omega) (by rw [List.size_toArray, ← hl]; exact h1) (by simpa using ew) ⟨rfl, fin⟩) hs
theorem ix_str : IxR X rIxS := by
  intro value slice pins s σ H x y v u Q I rx ry h hs
  obtain ⟨z, i, c, rfl, rfl, hz, he, q⟩ := h
  obtain ⟨t, rfl⟩ := rx
  obtain ⟨t', rfl⟩ := ry
  obtain ⟨j, h1, h2, h3, h4, h5⟩ := atI_get he
  have hl : z.cps.toList.length = z.length := by simp [Str.length]
  rw [hl] at h1 h4 h5
  have hn := line63
  exact tail_any (typeIs_str s z t) slot_str_getitem.lookup (getItem_str (c := c) (by
    have e1 : decide (i < -(2 ^ 63 : Int)) = false := decide_eq_false (by omega)
    have e2 : decide (i ≥ 2 ^ 63) = false := decide_eq_false (by omega)
    rw [e1, e2, Bool.or_false]) (by rw [h1]; simpa using h2) ⟨.str ⟨#[c]⟩, H, I.tok _, ⟨_, rfl⟩, q⟩) hs
/-- list, tuple or str -/
def rIx (K : PySem.W.Frag) : R2 := fun x y H Q => rIxL K x y H Q ∨ rIxT K x y H Q ∨ rIxS x y H Q
theorem ix_seq : IxR X (rIx X.K) := ix_list.or (ix_tup.or ix_str)

/-! ### xs[i] = v, any sign -/
/-- the list's object behind a store -/
theorem mapSeq_set (its : List Value) (n j : Nat) (u : Value) : Obj.mapSeq (·.setIfInBounds j u) { cls := .type "list", data := .seq its.toArray n } = { cls := .type "list", data := .seq (its.set j u).toArray n } := by
  simp [Obj.mapSeq]
theorem Inv.lst {pins : List (Addr × Obj)} {σ : St} {H : Hp} {s : Shared} {p : Addr} {xs : List V} (I : Inv X pins σ H s) (h : H p = some (.lst xs)) :
    ∃ (its : List Value) (n : Nat), Vals xs its ∧ s.heap.get? p = some { cls := .type "list", data := .seq its.toArray n } ∧ xs.length ≤ sizeLine := by
  obtain ⟨z, its, n, r, e⟩ := I.hok p _ h
  exact ⟨its, n, r, e, z⟩
/-- the list at p is written by an update of its object -/
theorem Inv.lstUpd {pins : List (Addr × Obj)} {σ : St} {H : Hp} {s : Shared} {p : Addr} {xs ys : List V} {its its' : List Value} {n n' : Nat} {f : Obj → Obj} (I : Inv X pins σ H s) (h : H p = some (.lst xs))
    (ho : s.heap.get? p = some { cls := .type "list", data := .seq its.toArray n }) (hf : f { cls := .type "list", data := .seq its.toArray n } = { cls := .type "list", data := .seq its'.toArray n' }) (r : Vals ys its') (hz : ys.length ≤ sizeLine) (t : Nat) :
    Inv X pins σ (upd H p (.lst ys)) { s with heap := s.heap.update p f, toks := t } := by
  have e : (s.heap.update p f).get? p = some { cls := .type "list", data := .seq its'.toArray n' } := by
    rw [Heap.get?_update_self f ho (by rw [hf] <;> rfl), hf]
  refine I.write (x := p) (e := p) (by rw [h]; trivial) (.inl rfl) (fun b u hb q => (Heap.get?_update_other _ _ (Ne.symm hb)).trans q) ⟨_, e⟩ ?_
  exact ⟨hz, its', n', r, e⟩
def rSetL : V → V → V → Hp → (Hp → Prop) → Prop := fun o i v H Q => ∃ p xs k j, o = .ref p ∧ i = .int k ∧ H p = some (.lst xs) ∧ ixN xs.length k = some j ∧ Q (upd H p (.lst (xs.set j v)))
theorem set_list : PSet X rSetL := by
  intro pins s σ H o i v ov iv u Q I ro ri rv h
  obtain ⟨p, xs, k, j, rfl, rfl, hp, hj, q⟩ := h
  cases ro
  obtain ⟨t, rfl⟩ := ri
  obtain ⟨its, n, r, ho, hz⟩ := I.lst hp
  obtain ⟨h1, h2, h3, h4⟩ := ixN_seq hj
  have hl := r.length
  have hn := line63
  have I' : Inv X pins σ (upd H p (.lst (xs.set j v))) { s with heap := s.heap.update p (Obj.mapSeq (·.setIfInBounds j u)) } :=
    I.lstUpd hp ho (mapSeq_set its n j u) (r.set rv j) (by rw [List.length_set]; exact hz) s.toks
  by_cases h0 : 0 ≤ k
  · have hk : k.toNat = j := by
      rw [seqIndex_of h0 h4] at h1
      exact Option.some.inj h1
    exact PySem.W.ki_setAt ho h0 (by omega) (by rw [List.size_toArray, ← hl]; exact h4) (by rw [hk]; exact ⟨_, I', q⟩)
  · have hk : (k + (its.toArray.size : Int)).toNat = j := by
      rw [seqIndex_neg (by omega) h3] at h1
      rw [List.size_toArray, ← hl]
      exact Option.some.inj h1
    exact PySem.W.ki_setBack ho (by omega) (by rw [List.size_toArray, ← hl]; exact h3) (by omega) (by rw [hk]; exact ⟨_, I', q⟩)

/-! ### slices -/
theorem slice_bounds (lo hi : Option Int) (n : Nat) : (sliceBounds lo hi none n).1 = ((HT.sIx n 0 lo : Nat) : Int) ∧ (sliceBounds lo hi none n).2.1 = ((HT.sIx n n hi : Nat) : Int) ∧ (sliceBounds lo hi none n).2.2 = 1 := by
  refine ⟨?_, ?_, rfl⟩
  · cases lo with
    | none => simp [sliceBounds, HT.sIx]
    | some i =>
      simp only [sliceBounds, HT.sIx, Option.getD_none, show (1 : Int) > 0 by decide, if_true]
      by_cases h : i < 0
      · simp only [h, if_true] <;> omega
      · simp only [h, if_false] <;> omega
  · cases hi with
    | none => simp [sliceBounds, HT.sIx]
    | some i =>
      simp only [sliceBounds, HT.sIx, Option.getD_none, show (1 : Int) > 0 by decide, if_true]
      by_cases h : i < 0
      · simp only [h, if_true] <;> omega
      · simp only [h, if_false] <;> omega
theorem slicePick_cut (its : List Value) (lo hi : Option Int) : slicePick its.toArray lo hi none = ((its.drop (HT.sIx its.length 0 lo)).take (HT.sIx its.length its.length hi - HT.sIx its.length 0 lo)).toArray := by
  obtain ⟨h1, h2, h3⟩ := slice_bounds lo hi its.toArray.size
  unfold slicePick
  rw [h1, h2, h3]
  simp only [sliceRange_one, pick_run, List.size_toArray] <;> rfl
/-- xs[lo:hi] of a list: a new list -/
def rSlL (K : PySem.W.Frag) : V → Option Int → Option Int → Hp → VK → Prop := fun x lo hi H Q => ∃ a xs, x = .ref a ∧ SqL K H a xs ∧ ∀ p, H p = none → Q (.ref p) (upd H p (.lst (cutV xs lo hi)))
theorem sl_list : SlR X (rSlL X.K) := by
  intro pins s σ H x v vl vu lo hi sl Q I rx hs pl pu h
  obtain ⟨a, xs, rfl, hx, q⟩ := h
  cases rx
  obtain ⟨its, r, ht, hz⟩ := I.list hx
  have hlen := r.length
  refine ⟨"list", _, slot_list_getitem.lookup, ht.isList.typeIs, ?_⟩
  refine wpAny_getItem_list_slice ht.isList hs pl pu .none (by simp) ?_ (by rw [List.size_toArray] <;> omega)
  rw [slicePick_cut, ← hlen]
  refine ⟨.ref s.heap.objs.size, _, I.laid (t' := s.toks) (o := .lst (cutV xs lo hi)) (fun b ob q => Heap.get?_push_of_some _ q) (Nat.le_refl _) ?_, rfl, q _ (I.hok.fresh (Nat.le_refl _))⟩
  exact ⟨Nat.le_trans (cutV_length xs lo hi) hz, _, 0, (r.drop (HT.sIx xs.length 0 lo)).take (HT.sIx xs.length xs.length hi - HT.sIx xs.length 0 lo), Heap.get?_push_size _ rfl⟩

/-! ### in, not in: flat items -/
def flatV : V → Bool
  | .non => true
  | .bl _ => true
  | .int _ => true
  | .str _ => true
  | _ => false
/-- == of flat values -/
def eqV : V → V → Bool
  | .non, .non => true
  | .bl a, .bl b => a == b
  | .bl a, .int b => (if a then 1 else 0) == b
  | .int a, .bl b => a == (if b then 1 else 0)
  | .int a, .int b => a == b
  | .str a, .str b => a == b
  | _, _ => false
theorem eqAt_V {A : Around} {s : Shared} {y x : V} {u v : Value} (ry : RelV y u) (rx : RelV x v) (fy : flatV y = true) (fx : flatV x = true) : SeqAt.EqAt A s u v (eqV y x) := by
  cases y with
  | non =>
    cases ry
    cases x with
    | non => cases rx; exact SeqAt.EqAt.same _
    | bl b => cases rx; exact SeqAt.EqAt.none_bool b
    | int b => obtain ⟨t, rfl⟩ := rx; exact SeqAt.EqAt.none_int b t
    | str b => obtain ⟨t, rfl⟩ := rx; exact SeqAt.EqAt.none_str b t
    | _ => exact absurd (show false = true from fx) Bool.false_ne_true
  | bl a =>
    cases ry
    cases x with
    | non => cases rx; exact SeqAt.EqAt.bool_none a
    | bl b => cases rx; exact SeqAt.EqAt.bool_bool a b
    | int b => obtain ⟨t, rfl⟩ := rx; exact SeqAt.EqAt.bool_int a b t
    | str b => obtain ⟨t, rfl⟩ := rx; exact SeqAt.EqAt.bool_str a b t
    | _ => exact absurd (show false = true from fx) Bool.false_ne_true
  | int a =>
    obtain ⟨t', rfl⟩ := ry
    cases x with
    | non => cases rx; exact SeqAt.EqAt.int_none a t'
    | bl b => cases rx; exact SeqAt.EqAt.int_bool a t' b
    | int b => obtain ⟨t, rfl⟩ := rx; exact SeqAt.EqAt.int_int a t' b t
    | str b => obtain ⟨t, rfl⟩ := rx; exact SeqAt.EqAt.int_str a t' b t
    | _ => exact absurd (show false = true from fx) Bool.false_ne_true
  | str a =>
    obtain ⟨t', rfl⟩ := ry
    cases x with
    | non => cases rx; exact SeqAt.EqAt.str_none a t'
    | bl b => cases rx; exact SeqAt.EqAt.str_bool a t' b
    | int b => obtain ⟨t, rfl⟩ := rx; exact SeqAt.EqAt.str_int a t' b t
    | str b => obtain ⟨t, rfl⟩ := rx; exact SeqAt.EqAt.str_str a t' b t
    | _ => exact absurd (show false = true from fx) Bool.false_ne_true
  | _ => exact absurd (show false = true from fy) Bool.false_ne_true
/-- the items' answers, read off the values (a value's own answer does not lean on its token) -/
def eqU (x : V) (u : Value) : Bool := match u with
  | .none => eqV .non x
  | .bool b => eqV (.bl b) x
  | .int i _ => eqV (.int i) x
  | .str z _ => eqV (.str z) x
  | _ => false
theorem eqU_of {x y : V} {u : Value} (r : RelV y u) (f : flatV y = true) : eqU x u = eqV y x := by
  cases y with
  | non => cases r; rfl
  | bl b => cases r; rfl
  | int i => obtain ⟨t, rfl⟩ := r; rfl
  | str z => obtain ⟨t, rfl⟩ := r; rfl
  | _ => exact absurd (show false = true from f) Bool.false_ne_true
theorem any_eqU {x : V} : ∀ {xs : List V} {us : List Value}, Vals xs us → xs.all flatV = true → us.any (eqU x) = xs.any fun y => eqV y x
  | _, _, .nil, _ => rfl
  | y :: xs, u :: us, .cons r t, f => by
    rw [List.all_cons, Bool.and_eq_true] at f
    rw [List.any_cons, List.any_cons, eqU_of r f.1, any_eqU t f.2]
theorem mem_eqAt {A : Around} {s : Shared} {x : V} {v : Value} (rx : RelV x v) (fx : flatV x = true) : ∀ {xs : List V} {us : List Value}, Vals xs us → xs.all flatV = true → ∀ u ∈ us, SeqAt.EqAt A s u v (eqU x u)
  | _, _, .nil, _ => fun u hu => by cases hu
  | y :: xs, u :: us, .cons r t, f => fun u' hu => by
    rw [List.all_cons, Bool.and_eq_true] at f
    rcases List.mem_cons.mp hu with rfl | hu
    · rw [eqU_of r f.1]; exact eqAt_V r rx f.1 fx
    · exact mem_eqAt rx fx t f.2 u' hu
def inV (x : V) (xs : List V) : Bool := xs.any fun y => eqV y x
/-- x in a list or tuple of flat items -/
def rIn (K : PySem.W.Frag) (neg : Bool) : R2 := fun x y H Q => ∃ p xs, y = .ref p ∧ (SqL K H p xs ∨ SqT K H p xs) ∧ flatV x = true ∧ xs.all flatV = true ∧ Q (.bl (if neg then !inV x xs else inV x xs)) H
theorem op_in_seq : OpR X (compareOp .In) (rIn X.K false) := by
  intro pins s σ H x y v u Q I rx ry h
  obtain ⟨p, xs, rfl, hq, fx, fs, q⟩ := h
  cases ry
  rcases hq with hq | hq
  · obtain ⟨its, r, pl, hz⟩ := I.list hq
    refine SeqAt.in_listAt (eqU x) pl.isList (fun w hw => mem_eqAt rx fx r fs w (by simpa using hw)) ⟨.bl _, H, I, rfl, ?_⟩
    rw [show its.toArray.any (eqU x) = its.any (eqU x) by simp, any_eqU r fs]
    exact q
  · obtain ⟨its, r, pl, hz⟩ := I.tuple hq
    refine SeqAt.in_tupleAt (eqU x) pl (fun w hw => mem_eqAt rx fx r fs w (by simpa using hw)) ⟨.bl _, H, I, rfl, ?_⟩
    rw [show its.toArray.any (eqU x) = its.any (eqU x) by simp, any_eqU r fs]
    exact q
theorem op_notIn_seq : OpR X (compareOp .NotIn) (rIn X.K true) := by
  intro pins s σ H x y v u Q I rx ry h
  obtain ⟨p, xs, rfl, hq, fx, fs, q⟩ := h
  cases ry
  rcases hq with hq | hq
  · obtain ⟨its, r, pl, hz⟩ := I.list hq
    refine SeqAt.notIn_listAt (eqU x) pl.isList (fun w hw => mem_eqAt rx fx r fs w (by simpa using hw)) ⟨.bl _, H, I, rfl, ?_⟩
    rw [show its.toArray.any (eqU x) = its.any (eqU x) by simp, any_eqU r fs]
    exact q
  · obtain ⟨its, r, pl, hz⟩ := I.tuple hq
    refine SeqAt.notIn_tupleAt (eqU x) pl (fun w hw => mem_eqAt rx fx r fs w (by simpa using hw)) ⟨.bl _, H, I, rfl, ?_⟩
    rw [show its.toArray.any (eqU x) = its.any (eqU x) by simp, any_eqU r fs]
    exact q
theorem op_notIn_str : OpR X (compareOp .NotIn) (fun x y H Q => ∃ i j, x = .str i ∧ y = .str j ∧ Q (.bl (!(!(Builtin.Str.occurrences j i 0 j.length 1).isEmpty))) H) := by
  intro pins s σ H x y v u Q I rx ry h
  obtain ⟨i, j, rfl, rfl, q⟩ := h
  obtain ⟨t, rfl⟩ := rx
  obtain ⟨t', rfl⟩ := ry
  exact notIn_str ⟨.bl _, H, I, rfl, q⟩

/-! ### len, list(x), tuple(x) of any list or tuple that is read -/
theorem call_len_seq : CallR X (.builtin "len") (fun xs H Q => ∃ p ys, xs = [.ref p] ∧ (SqL X.K H p ys ∨ SqT X.K H p ys) ∧ Q (.int ys.length) H) := by
  intro pins s σ H xs us Q I r h
  obtain ⟨p, ys, rfl, hq, q⟩ := h
  obtain ⟨u, rfl, rx⟩ := vals1 r
  cases rx
  have hn := line63
  rcases hq with hq | hq
  · obtain ⟨its, r', pl, hz⟩ := I.list hq
    have hlen := r'.length
    exact Calls.call_len_list pl.isList (by simp only [List.size_toArray] <;> omega) ⟨.int ys.length, H, I.tok _, ⟨s.toks + 1, by rw [List.size_toArray, hlen]⟩, q⟩
  · obtain ⟨its, r', pl, hz⟩ := I.tuple hq
    have hlen := r'.length
    exact len_tuple pl (by simp only [List.size_toArray] <;> omega) ⟨.int ys.length, H, I.tok _, ⟨s.toks + 1, by rw [List.size_toArray, hlen]⟩, q⟩
theorem call_len_str : CallR X (.builtin "len") (fun xs H Q => ∃ z, xs = [.str z] ∧ z.length ≤ sizeLine ∧ Q (.int z.length) H) := by
  intro pins s σ H xs us Q I r h
  obtain ⟨z, rfl, hz, q⟩ := h
  obtain ⟨u, rfl, t, rfl⟩ := vals1 r
  have hn := line63
  exact len_str (by omega) ⟨.int z.length, H, I.tok _, ⟨_, rfl⟩, q⟩
theorem CallR.or {f : Value} {r r' : List V → Hp → VK → Prop} (h : CallR X f r) (h' : CallR X f r') : CallR X f (fun xs H Q => r xs H Q ∨ r' xs H Q) := by
  intro pins s σ H xs us Q I rs q
  rcases q with q | q
  · exact h pins s σ H xs us Q I rs q
  · exact h' pins s σ H xs us Q I rs q
theorem call_list_of : CallR X (.type "list") (fun xs H Q => ∃ p ys, xs = [.ref p] ∧ (SqL X.K H p ys ∨ SqT X.K H p ys) ∧ ∀ l, H l = none → Q (.ref l) (upd H l (.lst ys))) := by
  intro pins s σ H xs us Q I r h
  obtain ⟨p, ys, rfl, hq, q⟩ := h
  obtain ⟨u, rfl, rx⟩ := vals1 r
  cases rx
  have fin : ∀ (its : List Value), Vals ys its → ys.length ≤ sizeLine → ∀ (h' : Heap) (c' : Nat), (∀ b o', s.heap.get? b = some o' → h'.get? b = some o') →
      h'.get? s.heap.objs.size = some { cls := .type "list", dict := none, data := .seq its.toArray c', slots := #[] } → EP X pins σ Q (.ref s.heap.objs.size) { s with heap := h' } := fun its r' hz h' c' kp e =>
    ⟨.ref s.heap.objs.size, _, I.laid (t' := s.toks) kp (Nat.le_refl _) (show ObjOk X.prog X.w _ h' _ (.lst ys) from ⟨hz, its, c', r', e⟩), rfl, q _ (I.hok.fresh (Nat.le_refl _))⟩
  rcases hq with hq | hq
  · obtain ⟨its, r', pl, hz⟩ := I.list hq
    have hlen := r'.length
    obtain ⟨o, ho, hc, n, hd⟩ := pl.isList
    exact call_list_seq p (.inl rfl) ho hc hd (fun h' c' kp e => fin its r' hz h' c' kp e) (by simp only [List.size_toArray] <;> omega)
  · obtain ⟨its, r', pl, hz⟩ := I.tuple hq
    have hlen := r'.length
    obtain ⟨o, ho, hc, n, hd⟩ := pl
    exact call_list_seq p (.inr rfl) ho hc hd (fun h' c' kp e => fin its r' hz h' c' kp e) (by simp only [List.size_toArray] <;> omega)
theorem call_tuple_of : CallR X (.type "tuple") (fun xs H Q => ∃ p ys, xs = [.ref p] ∧ ((SqL X.K H p ys ∧ ∀ l, H l = none → Q (.ref l) (upd H l (.tup ys))) ∨ (SqT X.K H p ys ∧ Q (.ref p) H))) := by
  intro pins s σ H xs us Q I r h
  obtain ⟨p, ys, rfl, h⟩ := h
  obtain ⟨u, rfl, rx⟩ := vals1 r
  cases rx
  rcases h with ⟨hq, q⟩ | ⟨hq, q⟩
  · obtain ⟨its, r', pl, hz⟩ := I.list hq
    have hlen := r'.length
    refine call_tuple_list pl.isList (fun h' kp => ?_) (by simp only [List.size_toArray] <;> omega)
    have I1 : Inv X pins σ H { s with heap := h' } := I.kept (t' := s.toks) kp
    have I2 : Inv X pins σ (upd H h'.objs.size (.tup ys)) { s with heap := h'.push { cls := .type "tuple", data := .seq its.toArray } } :=
      I1.laid (t' := s.toks) (fun b o e => Heap.get?_push_of_some _ e) (Nat.le_refl _) (show ObjOk X.prog X.w _ _ _ (.tup ys) from ⟨hz, its, r', IsTup.new _ _⟩)
    exact ⟨.ref h'.objs.size, _, I2, rfl, q _ (I1.hok.fresh (Nat.le_refl _))⟩
  · obtain ⟨its, r', pl, hz⟩ := I.tuple hq
    exact call_tuple_same pl ⟨.ref p, H, I, rfl, q⟩

/-! ### the call of a builtin's method: o.m(..) -/
/-- the value is of that builtin type -/
def tyV (K : PySem.W.Frag) (T : String) (x : V) (H : Hp) : Prop := match x with
  | .str _ => T = "str"
  | .int _ => T = "int"
  | .ref p => (T = "list" ∧ ∃ xs, SqL K H p xs) ∨ (T = "tuple" ∧ ∃ o, K.lookup p = some o ∧ o.cls = .type "tuple" ∧ o.dict = none) ∨
      (T = "dict" ∧ ((∃ kvs, H p = some (.dK kvs)) ∨ ∃ kvs, H p = some (.dT kvs))) ∨ (T = "set" ∧ ∃ S n, H p = some (.set S n))
  | _ => False
theorem tyV_is {pins : List (Addr × Obj)} {σ : St} {H : Hp} {s : Shared} {T : String} {x : V} {v : Value} (I : Inv X pins σ H s) (r : RelV x v) (ty : tyV X.K T x H) :
    s.TypeIs v T ∧ ∀ a, v = .ref a → ∃ ob, s.heap.get? a = some ob ∧ ob.dict = none := by
  cases x with
  | str z =>
    obtain ⟨t, rfl⟩ := r
    cases (show T = "str" from ty)
    exact ⟨typeIs_str s z t, fun _ e => nomatch e⟩
  | int i =>
    obtain ⟨t, rfl⟩ := r
    cases (show T = "int" from ty)
    exact ⟨typeIs_int s i t, fun _ e => nomatch e⟩
  | ref p =>
    cases r
    rcases ty with ⟨rfl, xs, hq⟩ | ⟨rfl, o, hk, hc, hd⟩ | ⟨rfl, hk⟩ | ⟨rfl, S, n, hk⟩
    · obtain ⟨its, _, pl, _⟩ := I.list hq
      refine ⟨pl.isList.typeIs, fun a e => ?_⟩
      cases e
      obtain ⟨o, n, e, c, hd, _⟩ := pl
      exact ⟨o, e, hd⟩
    · refine ⟨⟨o, I.kIn p o hk, hc⟩, fun a e => ?_⟩
      cases e
      exact ⟨o, I.kIn _ o hk, hd⟩
    · have z : ∃ o, s.heap.get? p = some o ∧ o.ExactDict := by
        rcases hk with ⟨kvs, hk⟩ | ⟨kvs, hk⟩
        · obtain ⟨_, _, _, _, o, _, _, e, ex, _⟩ := I.hok p _ hk
          exact ⟨o, e, ex⟩
        · obtain ⟨_, _, _, _, o, _, _, e, ex, _⟩ := I.hok p _ hk
          exact ⟨o, e, ex⟩
      obtain ⟨o, e, ex⟩ := z
      refine ⟨⟨o, e, ex.1⟩, fun a e2 => ?_⟩
      cases e2
      exact ⟨o, e, ex.2.1⟩
    · obtain ⟨o, _, _, _, e, ex, _⟩ := I.hok p _ hk
      refine ⟨⟨o, e, ex.1⟩, fun a e2 => ?_⟩
      cases e2
      exact ⟨o, e, ex.2.1⟩
  | _ => exact False.elim ty
def tBM0 (K : PySem.W.Frag) (T : String) (r : V → List V → Hp → VK → Prop) (to : TE) : TE := fun σ H Q => to σ H fun x H1 => tyV K T x H1 ∧ r x [] H1 Q
def tBM (K : PySem.W.Frag) (T : String) (r : V → List V → Hp → VK → Prop) (to : TE) (t : TA) : TE := fun σ H Q => to σ H fun x H1 => tyV K T x H1 ∧ t σ H1 fun xs H2 => r x xs H2 Q
variable {o e : Expr} {es : List Expr} {to : TE} {t : TA} {name : Str} {apos cpos : Pos} {T id : String} {r : V → List V → Hp → VK → Prop}
theorem pe_bm0 (pa : PlainAttrs T) (slot : Slot T name id) (hty : typeOf (.builtin id) = pure (.type "method_descriptor")) (hm : MtR X id r) (ho : PE X o to)
    (hbase : attributeBase o name X.env (eval o X.env) = eval o X.env := by rfl) (hline : (apos.endLine == cpos.line) = true := by rfl) : PE X (.Call (.Attribute o name apos) [] [] cpos) (tBM0 X.K T r to) := by
  intro pins s σ H Q I h
  refine wpAny_Call_method0_late hbase hline (thn (ho pins s σ H _ I h) fun v s1 ⟨x, H1, I1, r1, ty, q1⟩ => ?_)
  obtain ⟨h1, h2⟩ := tyV_is I1 r1 ty
  exact ⟨T, id, pa, slot, hty, h1, h2, Calls.callWith_builtin rfl (PySem.evalArgs_none (hm pins s1 σ H1 x [] v [] Q I1 r1 .nil q1))⟩
theorem pe_bm (pa : PlainAttrs T) (slot : Slot T name id) (hty : typeOf (.builtin id) = pure (.type "method_descriptor")) (hm : MtR X id r) (ho : PE X o to) (ha : PA X (e :: es) t)
    (hbase : attributeBase o name X.env (eval o X.env) = eval o X.env := by rfl)
    (hfew : ((backTo cpos (starEach (e :: es) X.env)).all (fun x => !x.1) && (backToKw cpos (keywordEach [] X.env)).all (fun x => x.1.isSome)
      && decide ((e :: es).length + ([] : List Keyword).length + (if ([] : List Keyword).isEmpty then 0 else 1) < 30)) = true := by rfl)
    (hline : (apos.endLine == cpos.line) = true := by rfl) (hs : starEach (e :: es) X.env = (false, eval e X.env) :: starEach es X.env := by rfl) (hplain : (backTo cpos (starEach es X.env)).any (·.1) = false := by rfl) :
    PE X (.Call (.Attribute o name apos) (e :: es) [] cpos) (tBM X.K T r to t) := by
  intro pins s σ H Q I h
  refine wpAny_Call_method_late hbase hfew hline rfl (thn (ho pins s σ H _ I h) fun v s1 ⟨x, H1, I1, r1, ty, q1⟩ => ?_)
  obtain ⟨h1, h2⟩ := tyV_is I1 r1 ty
  refine ⟨T, id, pa, slot, hty, h1, h2, ?_⟩
  have hA := ha cpos pins s1 σ H1 _ I1 q1
  rw [hs] at hA ⊢
  refine Calls.callWith_builtin (by show (false || (backTo cpos (starEach es X.env)).any (·.1)) = false; rw [hplain] <;> rfl) (Calls.evalArgs_plain ?_)
  exact thn hA fun us s2 ⟨vs, H2, I2, r2, q2⟩ => hm pins s2 σ H2 x vs v us Q I2 r1 r2 q2
/- xs.append(e), list.index on a module's tuple .. are MtR facts of 06m -/
end
end L2

namespace L2
open PySem PySem.Spec PyProof.Rows

def MtM (X : Cx) (id : String) (r : V → List V → Hp → VK → Prop) : Prop :=
  ∀ (pins : List (Addr × Obj)) (s : Shared) (σ : St) (H : Hp) (x : V) (xs : List V) (v : Value) (us : List Value) (Q : VK), Inv X pins σ H s → RelV x v → Vals xs us → r x xs H Q →
    wpAny (model X.prog X.w) X.A (call (.builtin id) (v :: us)) (EP X pins σ Q) X.xe s

/-! ### lists of values -/
theorem Vals.one : ∀ {x : V} {us : List Value}, Vals [x] us → ∃ u, us = [u] ∧ RelV x u
  | _, _, .cons r .nil => ⟨_, rfl, r⟩
theorem Vals.two : ∀ {x y : V} {us : List Value}, Vals [x, y] us → ∃ u v, us = [u, v] ∧ RelV x u ∧ RelV y v
  | _, _, _, .cons r (.cons q .nil) => ⟨_, _, rfl, r, q⟩
theorem Vals.zero : ∀ {us : List Value}, Vals [] us → us = []
  | _, .nil => rfl
theorem Vals.dropLast {xs : List V} {us : List Value} (h : Vals xs us) : Vals xs.dropLast us.dropLast := by
  induction h with
  | nil => exact .nil
  | cons r t ih =>
    cases t with
    | nil => exact .nil
    | cons q t' => exact .cons r ih
theorem Vals.eraseIdx : ∀ {xs : List V} {us : List Value} (i : Nat), Vals xs us → Vals (xs.eraseIdx i) (us.eraseIdx i)
  | _, _, _, .nil => .nil
  | _, _, 0, .cons _ t => t
  | _, _, i + 1, .cons r t => .cons r (Vals.eraseIdx i t)
theorem Vals.reverse {xs : List V} {us : List Value} (h : Vals xs us) : Vals xs.reverse us.reverse := by
  induction h with
  | nil => exact .nil
  | cons r t ih => rw [List.reverse_cons, List.reverse_cons]; exact Vals.append ih (.cons r .nil)
theorem Vals.rep {xs : List V} {us : List Value} (h : Vals xs us) : ∀ k : Nat, Vals (List.replicate k xs).flatten (List.replicate k us).flatten
  | 0 => .nil
  | k + 1 => by
    rw [List.replicate_succ, List.replicate_succ, List.flatten_cons, List.flatten_cons]
    exact Vals.append h (Vals.rep h k)
theorem erase_last {α : Type} (l : List α) : l.eraseIdx (l.length - 1) = l.dropLast := by
  induction l with
  | nil => rfl
  | cons a r ih =>
    cases r with
    | nil => rfl
    | cons b r =>
      have e : (a :: b :: r).length - 1 = ((b :: r).length - 1) + 1 := by
        have h1 : (a :: b :: r).length = r.length + 2 := rfl
        have h2 : (b :: r).length = r.length + 1 := rfl
        omega
      rw [e, List.eraseIdx_cons_succ, ih]
      all_goals rfl
theorem len_erase {α : Type} : ∀ (l : List α) (i : Nat), (l.eraseIdx i).length ≤ l.length
  | [], _ => Nat.le_refl _
  | _ :: _, 0 => Nat.le_succ _
  | _ :: r, i + 1 => Nat.succ_le_succ (len_erase r i)
theorem foldl_rep (its : List Value) : ∀ (k : Nat) (acc : List Value),
    List.foldl (fun x1 x2 => x1 ++ x2) acc.toArray (List.replicate k its.toArray) = (acc ++ (List.replicate k its).flatten).toArray
  | 0, acc => by simp
  | k + 1, acc => by
    have e : acc.toArray ++ its.toArray = (acc ++ its).toArray := by simp
    have e2 : (acc ++ its) ++ (List.replicate k its).flatten = acc ++ (List.replicate (k + 1) its).flatten := by
      rw [List.replicate_succ, List.flatten_cons, List.append_assoc]
    rw [← e2, ← foldl_rep its k (acc ++ its), ← e, List.replicate_succ, List.foldl_cons]

section
variable {X : Cx} {pins : List (Addr × Obj)} {σ : St} {H : Hp} {s : Shared} {l b : Addr} {xs ys zs : List V}

/-! ### the two steps: a tracked list is rewritten, a new list is laid -/
theorem Inv.lset {its its' : List Value} {n : Nat} {f : Array Value → Array Value} {t' : Nat} (I : Inv X pins σ H s) (hH : H l = some (.lst xs))
    (e : s.heap.get? l = some { cls := .type "list", data := .seq its.toArray n }) (hf : f its.toArray = its'.toArray) (hv : Vals ys its') (hz : ys.length ≤ sizeLine) :
    Inv X pins σ (upd H l (.lst ys)) { s with heap := s.heap.update l (Obj.mapSeq f), toks := t' } := by
  have q := PySem.IsL.update e f
  rw [hf] at q
  refine I.write (x := l) (e := l) (by rw [hH]; exact trivial) (.inl rfl) (fun b' u hb hu => (Heap.get?_update_other s.heap (Obj.mapSeq f) (Ne.symm hb)).trans hu) ⟨_, q⟩ ?_
  exact ⟨hz, its', _, hv, q⟩
theorem Inv.lnew {its : List Value} {t' : Nat} (I : Inv X pins σ H s) (hv : Vals ys its) (hz : ys.length ≤ sizeLine) :
    Inv X pins σ (upd H s.heap.objs.size (.lst ys)) { s with heap := s.heap.push { cls := .type "list", data := .seq its.toArray }, toks := t' } :=
  I.laid (fun _ _ q => Heap.get?_push_of_some _ q) (Nat.le_refl _) ⟨hz, its, 0, hv, Heap.get?_push_size _ rfl⟩
theorem Inv.fresh (I : Inv X pins σ H s) : H s.heap.objs.size = none := I.hok.fresh (Nat.le_refl _)
theorem Inv.lstM (I : Inv X pins σ H s) (hH : H l = some (.lst xs)) : xs.length ≤ sizeLine ∧ ∃ (its : List Value) (n : Nat), Vals xs its ∧ xs.length = its.length ∧ s.heap.get? l = some { cls := .type "list", data := .seq its.toArray n } := by
  obtain ⟨z, its, n, r, e⟩ := I.hok l _ hH
  exact ⟨z, its, n, r, r.length, e⟩

theorem notLongL {n : Nat} (h : n ≤ sizeLine) : Builtin.List.listTooLong n = false := by
  unfold Builtin.List.listTooLong
  exact decide_eq_false (by omega)
end

section
variable {X : Cx}

/-! ### methods -/
def rAppend : V → List V → Hp → VK → Prop := fun x vs H Q => ∃ l xs y, x = .ref l ∧ vs = [y] ∧ H l = some (.lst xs) ∧ xs.length < sizeLine ∧ Q .non (upd H l (.lst (xs ++ [y])))
theorem mt_append : MtM X "list.append" rAppend := by
  intro pins s σ H x vs v us Q I rx rv h
  obtain ⟨l, xs, y, rfl, rfl, hH, hz, q⟩ := h
  cases rx
  obtain ⟨u, rfl, ru⟩ := rv.one
  obtain ⟨z, its, n, r, hl, e⟩ := I.lstM hH
  refine call_meets F.slot_list_append ⟨_, e, rfl⟩ F.entry_list_append (F.args_list_append_2 _ _) (PySem.list_append l its.toArray n u (by rw [List.size_toArray]; omega)) ⟨e, ?_⟩
  refine ⟨.non, _, I.lset (its' := its ++ [u]) hH e (by simp) (r.append (.cons ru .nil)) ?_, rfl, q⟩
  rw [List.length_append, List.length_singleton]
  omega

def rExtend : V → List V → Hp → VK → Prop := fun x vs H Q => ∃ l b xs zs, x = .ref l ∧ vs = [.ref b] ∧ H l = some (.lst xs) ∧ H b = some (.lst zs) ∧ xs.length + zs.length ≤ sizeLine ∧ Q .non (upd H l (.lst (xs ++ zs)))
theorem mt_extend : MtM X "list.extend" rExtend := by
  intro pins s σ H x vs v us Q I rx rv h
  obtain ⟨l, b, xs, zs, rfl, rfl, hH, hB, hz, q⟩ := h
  cases rx
  obtain ⟨u, rfl, ru⟩ := rv.one
  cases ru
  obtain ⟨z, its, n, r, hl, e⟩ := I.lstM hH
  obtain ⟨z2, its2, n2, r2, hl2, e2⟩ := I.lstM hB
  have hsz : its.toArray.size + its2.toArray.size ≤ sizeLine := by rw [List.size_toArray, List.size_toArray]; omega
  have hlong : ¬ (!its.toArray.isEmpty && Builtin.List.listTooLong (its.toArray.size + its2.toArray.size)) = true := by
    rw [notLongL hsz, Bool.and_false]
    exact Bool.false_ne_true
  refine call_meets F.slot_list_extend ⟨_, e, rfl⟩ F.entry_list_extend (F.args_list_extend_2 _ _)
    (AutoSeq1.list_extend_list_list_0 l its.toArray n b its2.toArray n2 hlong (by rw [List.size_toArray]; omega) (by omega)) ⟨e, e2, ?_⟩
  refine ⟨.non, _, I.lset (its' := its ++ its2) hH e (by simp) (r.append r2) ?_, rfl, q⟩
  rw [List.length_append]
  omega

def rPop : V → List V → Hp → VK → Prop := fun x vs H Q => ∃ l xs y, x = .ref l ∧ vs = [] ∧ H l = some (.lst xs) ∧ xs[xs.length - 1]? = some y ∧ Q y (upd H l (.lst xs.dropLast))
theorem mt_pop : MtM X "list.pop" rPop := by
  intro pins s σ H x vs v us Q I rx rv h
  obtain ⟨l, xs, y, rfl, rfl, hH, hy, q⟩ := h
  cases rx
  have hus := rv.zero
  subst hus
  obtain ⟨z, its, n, r, hl, e⟩ := I.lstM hH
  obtain ⟨u, hu, ru⟩ := r.get hy
  have hy' : its.toArray[its.toArray.size - 1]? = some u := by
    show its.toArray[its.length - 1]? = some u
    rw [← Array.getElem?_toList, ← hl]
    exact hu
  refine call_meets F.slot_list_pop ⟨_, e, rfl⟩ F.entry_list_pop (F.args_list_pop_1 _) (MeetsSeq.list_pop_last l its.toArray n u hy' (by rw [List.size_toArray]; omega)) ⟨e, ?_⟩
  refine ⟨y, _, I.lset (its' := its.dropLast) hH e ?_ r.dropLast ?_, ru, q⟩
  · show its.toArray.eraseIdxIfInBounds (its.toArray.size - 1) = its.dropLast.toArray
    rw [List.size_toArray, List.eraseIdxIfInBounds_toArray, erase_last]
  · rw [List.length_dropLast]
    omega

def rPopAt : V → List V → Hp → VK → Prop := fun x vs H Q => ∃ l xs i k y, x = .ref l ∧ vs = [.int i] ∧ H l = some (.lst xs) ∧ -(2 ^ 63) ≤ i ∧ i < 2 ^ 63 ∧ seqIndex? i xs.length = some k ∧ xs[k]? = some y ∧ Q y (upd H l (.lst (xs.eraseIdx k)))
theorem mt_popAt : MtM X "list.pop" rPopAt := by
  intro pins s σ H x vs v us Q I rx rv h
  obtain ⟨l, xs, i, k, y, rfl, rfl, hH, h1, h2, hk, hy, q⟩ := h
  cases rx
  obtain ⟨u, rfl, ru⟩ := rv.one
  obtain ⟨t, rfl⟩ := ru
  obtain ⟨z, its, n, r, hl, e⟩ := I.lstM hH
  obtain ⟨w, hw, rw'⟩ := r.get hy
  refine call_meets F.slot_list_pop ⟨_, e, rfl⟩ F.entry_list_pop (F.args_list_pop_2 _ _)
    (MeetsSeq.list_pop_at l its.toArray n i t k w (fitsIndex_both h1 h2) (by rw [List.size_toArray, ← hl]; exact hk) (by rw [← Array.getElem?_toList]; exact hw) (by rw [List.size_toArray]; omega)) ⟨e, ?_⟩
  refine ⟨y, _, I.lset (its' := its.eraseIdx k) hH e ?_ (r.eraseIdx k) ?_, rw', q⟩
  · show its.toArray.eraseIdxIfInBounds k = (its.eraseIdx k).toArray
    rw [List.eraseIdxIfInBounds_toArray]
  · have := len_erase xs k
    omega

def rReverse : V → List V → Hp → VK → Prop := fun x vs H Q => ∃ l xs, x = .ref l ∧ vs = [] ∧ H l = some (.lst xs) ∧ Q .non (upd H l (.lst xs.reverse))
theorem mt_reverse : MtM X "list.reverse" rReverse := by
  intro pins s σ H x vs v us Q I rx rv h
  obtain ⟨l, xs, rfl, rfl, hH, q⟩ := h
  cases rx
  have hus := rv.zero
  subst hus
  obtain ⟨z, its, n, r, hl, e⟩ := I.lstM hH
  refine call_meets F.slot_list_reverse ⟨_, e, rfl⟩ F.entry_list_reverse (F.args_list_reverse_1 _) (AutoSeq1.list_reverse_list_0 l its.toArray n (by rw [List.size_toArray]; omega)) ⟨e, ?_⟩
  refine ⟨.non, _, I.lset (its' := its.reverse) hH e (by simp) r.reverse ?_, rfl, q⟩
  rw [List.length_reverse]
  omega

def rClear : V → List V → Hp → VK → Prop := fun x vs H Q => ∃ l xs, x = .ref l ∧ vs = [] ∧ H l = some (.lst xs) ∧ Q .non (upd H l (.lst []))
theorem mt_clear : MtM X "list.clear" rClear := by
  intro pins s σ H x vs v us Q I rx rv h
  obtain ⟨l, xs, rfl, rfl, hH, q⟩ := h
  cases rx
  have hus := rv.zero
  subst hus
  obtain ⟨z, its, n, r, hl, e⟩ := I.lstM hH
  refine call_meets F.slot_list_clear ⟨_, e, rfl⟩ F.entry_list_clear (F.args_list_clear_1 _) (AutoSeq1.list_clear_list_0 l its.toArray n (by rw [List.size_toArray]; omega)) ⟨e, ?_⟩
  exact ⟨.non, _, I.lset (its' := []) (ys := []) hH e rfl .nil (Nat.zero_le _), rfl, q⟩

/-! ### list + list, list += list, list * int -/
def rCat : R2 := fun x y H Q => ∃ l b xs zs, x = .ref l ∧ y = .ref b ∧ H l = some (.lst xs) ∧ H b = some (.lst zs) ∧ xs.length + zs.length ≤ sizeLine ∧ ∀ p, H p = none → Q (.ref p) (upd H p (.lst (xs ++ zs)))
theorem op_cat : OpR X (binaryOp .Add) rCat := by
  intro pins s σ H x y v u Q I rx ry h
  obtain ⟨l, b, xs, zs, rfl, rfl, hH, hB, hz, q⟩ := h
  cases rx
  cases ry
  obtain ⟨z, its, n, r, hl, e⟩ := I.lstM hH
  obtain ⟨z2, its2, n2, r2, hl2, e2⟩ := I.lstM hB
  refine PySem.P.add_list e e2 ?_ (by rw [List.size_toArray, List.size_toArray]; omega)
  have ea : its.toArray ++ its2.toArray = (its ++ its2).toArray := by simp
  rw [ea]
  exact ⟨.ref _, _, I.lnew (t' := s.toks) (r.append r2) (by rw [List.length_append]; omega), rfl, q _ I.fresh⟩
/-- a list times an int (a negative one is nothing) -/
def rRep : R2 := fun x y H Q => ∃ l k xs, x = .ref l ∧ y = .int k ∧ H l = some (.lst xs) ∧ -(2 ^ 63) ≤ k ∧ k < 2 ^ 63 ∧ xs.length * k.toNat ≤ sizeLine ∧
  ∀ p, H p = none → Q (.ref p) (upd H p (.lst (List.replicate k.toNat xs).flatten))
theorem len_rep {α : Type} (xs : List α) (k : Nat) : (List.replicate k xs).flatten.length = k * xs.length := by
  induction k with
  | zero => simp
  | succ k ih => rw [List.replicate_succ, List.flatten_cons, List.length_append, ih, Nat.succ_mul, Nat.add_comm]
theorem op_rep : OpR X (binaryOp .Mult) rRep := by
  intro pins s σ H x y v u Q I rx ry h
  obtain ⟨l, k, xs, rfl, rfl, hH, h1, h2, hz, q⟩ := h
  cases rx
  obtain ⟨t, rfl⟩ := ry
  obtain ⟨z, its, n, r, hl, e⟩ := I.lstM hH
  have hlen : its.toArray.size * k.toNat ≤ sizeLine := by rw [List.size_toArray, ← hl]; exact hz
  have hcap : ¬ its.toArray.size * k.toNat > (2 ^ 63 - 1) / 8 := by
    have : (sizeLine : Nat) ≤ (2 ^ 63 - 1) / 8 := by decide
    omega
  have hfit : ¬ (!Builtin.List.listFitsIndex k) = true := by
    rw [fitsIndex_both h1 h2]
    exact Bool.false_ne_true
  have hlong : ¬ Builtin.List.listTooLong (its.toArray.size * k.toNat) = true := by
    rw [notLongL hlen]
    exact Bool.false_ne_true
  have hnew : List.foldl (fun x1 x2 => x1 ++ x2) #[] (List.replicate (if its.toArray.isEmpty = true then 0 else k.toNat) its.toArray) = (List.replicate k.toNat its).flatten.toArray := by
    have f0 : ∀ m : Nat, List.foldl (fun x1 x2 => x1 ++ x2) #[] (List.replicate m its.toArray) = (List.replicate m its).flatten.toArray := fun m => by
      have := foldl_rep its m []
      rw [List.nil_append] at this
      exact this
    rw [f0]
    cases its with
    | nil => simp
    | cons a r' => rw [if_neg (by simp)]
  refine wpAny_binaryOp_repeat_ref (T := "list") (U := "int") (by decide) ⟨_, e, rfl⟩ (fun s' => typeIs_int s' k t) noFill_list_mul F.fills_int_mul F.slot_int_rmul repeat_list F.slot_int_index.lookup
    (call_meets F.slot_int_rmul (typeIs_int s k t) F.entry_int_rmul (F.args_int_rmul_2 _ _) (int___rmul___int_list k t l its.toArray n)
      ⟨e, rfl, ⟨_, e, rfl⟩, call_meets F.slot_list_mul ⟨_, e, rfl⟩ F.entry_list_mul (F.args_list_mul_2 _ _) (AutoListH.list___mul___list_int_3 l its.toArray n k t hfit hcap hlong) ⟨e, ?_⟩⟩)
  rw [hnew]
  exact ⟨.ref _, _, I.lnew (t' := s.toks) (r.rep k.toNat) (by rw [len_rep, Nat.mul_comm]; exact hz), rfl, q _ I.fresh⟩

/-! ### del xs[i] -/
theorem del_list {pins : List (Addr × Obj)} {s : Shared} {σ : St} {H : Hp} {l : Addr} {xs : List V} {i : Int} {t : Tok} {k : Nat} {Q : Unit → Shared → Prop} (I : Inv X pins σ H s) (hH : H l = some (.lst xs))
    (h1 : -(2 ^ 63) ≤ i) (h2 : i < 2 ^ 63) (hk : seqIndex? i xs.length = some k) (h : ∀ s', Inv X pins σ (upd H l (.lst (xs.eraseIdx k))) s' → Q () s') :
    wpAny (model X.prog X.w) X.A (delItem (.ref l) (.int i t)) Q X.xe s := by
  obtain ⟨z, its, n, r, hl, e⟩ := I.lstM hH
  refine PySem.P.delItem_list (k := k) e (fitsIndex_both h1 h2) (by rw [List.size_toArray, ← hl]; exact hk) (h _ ?_) (by rw [List.size_toArray]; omega)
  refine I.lset (its' := its.eraseIdx k) (t' := s.toks) hH e ?_ (r.eraseIdx k) ?_
  · show its.toArray.eraseIdxIfInBounds k = (its.eraseIdx k).toArray
    rw [List.eraseIdxIfInBounds_toArray]
  · have := len_erase xs k
    omega
end

/-! ### xs[a:b] = ys -/
section
variable {prog : Program} {w : World} {A : Around} {E : Value → Shared → Prop} {s : Shared}
theorem splice_eq (its its2 : List Value) (a c : Nat) : its.toArray.extract 0 a ++ its2.toArray ++ its.toArray.extract c its.toArray.size = (its.take a ++ its2 ++ its.drop c).toArray := by
  apply Array.toList_inj.mp
  first
    | (simp
       exact List.take_of_length_le (by simp))
    | simp [List.take_of_length_le]
    | simp
theorem bounds_run {a c n : Nat} (hac : a ≤ c) (hc : c ≤ n) : sliceBounds (some (a : Int)) (some (c : Int)) none n = ((a : Int), (c : Int), 1) := by
  simp only [sliceBounds, Option.getD_none]
  have h1 : ¬ ((a : Int) < 0) := by omega
  have h2 : ¬ ((c : Int) < 0) := by omega
  simp only [h1, h2, if_false, show (1 : Int) > 0 by decide, if_true]
  congr 1
  · omega
  · congr 1; omega
set_option maxRecDepth 100000 in
/-- list.__setitem__ with a slice of step one and another list -/
theorem setItem_slice {l b sl : Addr} {items new : Array Value} {n n2 : Nat} {vl vu : Value} {a c : Nat} {Q : Unit → Shared → Prop}
    (e : s.heap.get? l = some { cls := .type "list", data := .seq items n }) (e2 : s.heap.get? b = some { cls := .type "list", data := .seq new n2 }) (hne : l ≠ b)
    (hs : s.heap.IsSliceOf sl vl vu .none) (pl : IsPart vl (some (a : Int))) (pu : IsPart vu (some (c : Int))) (hac : a ≤ c) (hc : c ≤ items.size)
    (hsz : items.size + new.size ≤ sizeLine) (h : Q () { s with heap := s.heap.update l (Obj.mapSeq fun xs => xs.extract 0 a ++ new ++ xs.extract c xs.size) }) :
    wpAny (model prog w) A (setItem (.ref l) (.ref sl) (.ref b)) Q E s := by
  have hl : s.heap.IsList l items := PySem.IsL.isList e
  have hb : s.heap.IsList b new := PySem.IsL.isList e2
  obtain ⟨os, hos, hcs, hds⟩ := id hs
  have hTs : s.TypeIs (.ref sl) "slice" := ⟨os, hos, hcs⟩
  have hstep : ¬ ((rawPart none == rawInt 0) = true) := Bool.false_ne_true
  have hsame : Builtin.List.listSameRef (.ref l) (.ref b) = false := by
    unfold Builtin.List.listSameRef
    exact beq_eq_false_iff_ne.mpr hne
  have hmax : (max (a : Int) (c : Int)).toNat = c := by omega
  have hz' : ((fun xs : Array Value => xs.extract 0 a ++ new ++ xs.extract c xs.size) items).size ≤ sizeLine + 1 := by
    simp only [Array.size_append, Array.size_extract]
    omega
  unfold setItem
  try with_reducible refine wpAny_holding ?_
  first | refine wpAny_bind (wpAny_pure ?_) | skip
  refine wpAny_bind (wpAny_sequenceKey hl.typeIs (by decide) ?_)
  refine wpAny_bind (wpAny_callSpecial?_slot (name := Str.ofString "__setitem__") hl.typeIs slot_list_setitem
    (wpAny_call_entry slot_list_setitem hl.typeIs entry_list_setitem ?_ (args_list_setitem _ _ _)))
  show wpAny _ _ (Builtin.List.listSubscript? (.ref sl) >>= _) _ _ s
  refine wpAny_bind ?_
  unfold Builtin.List.listSubscript?
  refine wpAny_bind (wpAny_specialOf hTs slice_no_index ?_)
  simp only [Option.isNone_none, if_true]
  refine wpAny_pure ?_
  show wpAny _ _ (typeOf (.ref sl) >>= _) _ _ s
  refine wpAny_bind (wpAny_typeOf hTs ?_)
  first
    | rw [if_neg (by decide)]
    | refine PySem.W.KFB.if_not (by decide) ?_
  rw [listSliceParts_eq]
  refine wpAny_bind (wpAny_bind (wpAny_field hos hds (x := .none) rfl (wpAny_bind (wpAny_listPart .none ?_))))
  rw [if_neg hstep]
  refine wpAny_bind (wpAny_field hos hds (x := vl) rfl (wpAny_bind (wpAny_listPart pl ?_)))
  refine wpAny_bind (wpAny_field hos hds (x := vu) rfl (wpAny_bind (wpAny_listPart pu (wpAny_pure ?_))))
  first
    | simp only [hsame, Bool.false_eq_true, if_false]
    | refine PySem.W.KFB.if_not hsame ?_
    | (dsimp only
       rw [if_neg (by rw [hsame]; exact Bool.false_ne_true)])
  refine wpAny_bind (m := Builtin.List.listAllItems (.ref b) "must assign iterable to extended slice") ?_
  unfold Builtin.List.listAllItems
  refine wpAny_bind (wpAny_typeOf hb.typeIs ?_)
  first
    | refine PySem.W.KFB.if_so (by decide) ?_
    | rw [if_pos (by decide)]
    | simp only [beq_self_eq_true, Bool.true_or, if_true]
  unfold Builtin.List.listItems
  refine wpAny_bind (wpAny_seqItems e2 rfl (wpAny_pure ?_))
  refine wpAny_bind (wpAny_bind (wpAny_seqItems e rfl (wpAny_pure ?_)))
  refine wpAny_bind (wpAny_of_eq ((sliceIndices_raw (some (a : Int)) (some (c : Int)) none items.size (by simp)).trans (congrArg (pure : Int × Int × Int → Sem (Int × Int × Int)) (bounds_run hac hc))) ?_)
  show wpAny _ _ (if ((1 : Int) == 1) = true then _ else _) _ _ s
  rw [if_pos (by decide)]
  refine wpAny_bind (wpAny_rule ?_)
  first
    | simp only [notLongL hsz, Bool.false_eq_true, if_false]
    | refine PySem.W.KFB.if_not (notLongL hsz) ?_
  first | refine wpAny_bind (wpAny_pure ?_) | skip
  show wpAny _ _ (updateSeq l (fun xs => xs.extract 0 ((a : Int)).toNat ++ new ++ xs.extract (max (a : Int) (c : Int)).toNat xs.size) >>= _) _ _ s
  rw [hmax, Int.toNat_natCast]
  refine wpAny_bind (wpAny_updateSeq (hz := Nat.le_trans (Nat.le_add_right _ _) hsz) (_hz' := hz') e rfl ?_)
  refine wpAny_bind (wpAny_letGo ?_)
  first
    | exact wpAny_bind (wpAny_pure (wpAny_pure ⟨.none, rfl, wpAny_pure h⟩))
    | exact wpAny_pure ⟨.none, rfl, wpAny_pure h⟩
end

section
variable {X : Cx}
/-- xs[a:c] = ys of another list, at the value level: sl is the slice object that was just made -/
theorem set_slice {pins : List (Addr × Obj)} {s : Shared} {σ : St} {H : Hp} {l b sl : Addr} {xs ys : List V} {a c : Int} {vl vu : Value} {Q : Unit → Shared → Prop} (I : Inv X pins σ H s)
    (hH : H l = some (.lst xs)) (hB : H b = some (.lst ys)) (hne : l ≠ b) (hs : s.heap.IsSliceOf sl vl vu .none) (ra : RelV (.int a) vl) (rc : RelV (.int c) vu) (h0 : 0 ≤ a) (hac : a ≤ c) (hc : c ≤ xs.length)
    (hz : xs.length + ys.length ≤ sizeLine) (h : ∀ s', Inv X pins σ (upd H l (.lst (xs.take a.toNat ++ ys ++ xs.drop c.toNat))) s' → Q () s') :
    wpAny (model X.prog X.w) X.A (setItem (.ref l) (.ref sl) (.ref b)) Q X.xe s := by
  obtain ⟨ta, rfl⟩ := ra
  obtain ⟨tc, rfl⟩ := rc
  obtain ⟨z, its, n, r, hl, e⟩ := I.lstM hH
  obtain ⟨z2, its2, n2, r2, hl2, e2⟩ := I.lstM hB
  obtain ⟨a', rfl⟩ := Int.eq_ofNat_of_zero_le h0
  obtain ⟨c', rfl⟩ := Int.eq_ofNat_of_zero_le (Int.le_trans h0 hac)
  simp only [Int.toNat_natCast] at h
  refine setItem_slice (a := a') (c := c') e e2 hne hs (.int _ _) (.int _ _) (by omega) (by rw [List.size_toArray]; omega) (by rw [List.size_toArray, List.size_toArray]; omega) (h _ ?_)
  refine I.lset (its' := its.take a' ++ its2 ++ its.drop c') (t' := s.toks) hH e ?_ (Vals.append (Vals.append (r.take _) r2) (r.drop _)) ?_
  · exact splice_eq its its2 a' c'
  · rw [List.length_append, List.length_append, List.length_take, List.length_drop]
    omega
end
end L2

namespace Att
open PySem PySem.W PySem.Calls PyProof.Rows

/-! ### the script -/
theorem ints_of_wellAll {P : Params} {h : Heap} : ∀ (ns : List Int) (vs : List Value), WellAll P h vs (ns.map WData.int) → IntsAre vs ns := by
  intro ns
  induction ns with
  | nil =>
    intro vs w
    rw [List.map_nil] at w
    cases w
    exact .nil
  | cons n ns ih =>
    intro vs w
    rw [List.map_cons] at w
    cases w with
    | cons a b =>
      cases a
      exact .cons _ _ (ih _ b)

theorem script_of {l : OpenLaw} {n : Nat} (hn : l.most = some n) {P : Params} {h : Heap} {args : List WData} {vals : List Value}
    (hpre : l.row.toRowW.claim.pre args = true) (hwl : WellAll P h vals args) :
    ∃ a vs ns, vals = [Value.ref a] ∧ args = [WData.list (ns.map WData.int)] ∧ h.get? a = some { cls := .type "list", data := .seq vs.toArray } ∧ IntsAre vs ns ∧ ns.length ≤ n := by
  have hsh : WShape.hasAll [] args [.list .int] = true := (pre_splitW hpre).1
  have hc : l.pre.holds [] { args := args } = true := (pre_splitW hpre).2
  obtain ⟨d, r, rfl, h1, h2⟩ := hasAllW_cons hsh
  obtain rfl := hasAllW_nil h2
  obtain ⟨xs, rfl, h3⟩ := hasW_list h1
  obtain ⟨ns, rfl⟩ := items_int h3
  have hlen : ns.length ≤ n := by
    unfold OpenLaw.pre at hc
    have h4 : (WTm.not (.lt (.lit (.int (n : Int))) (.len (.arg 0)))).holds [] { args := [.list (ns.map .int)] } = true := by
      have h4 := (holds_andW hc).1
      rw [hn] at h4
      exact h4
    have h5 := condW_of h4 (w_not (w_lt w_lit (w_len_list (w_arg rfl))))
    rw [List.length_map] at h5
    refine Nat.le_of_not_lt fun q => ?_
    have q' : (n : Int) < ((ns.length : Nat) : Int) := by omega
    first
      | (rw [decide_eq_true q'] at h5; exact absurd h5 (by decide))
      | (simp at h5; omega)
  cases hwl with
  | cons w1 w2 =>
    cases w2
    cases w1 with
    | list ho hall => exact ⟨_, _, ns, rfl, rfl, ho, ints_of_wellAll ns _ hall, hlen⟩

theorem post_true (l : OpenLaw) (args : List WData) : l.row.toRowW.claim.post args (.bool true) args = true :=
  postW_of (r := l.row.toRowW) (X := (true == true))
    (show WShape.has [] (.bool true) .bool = true by first | rfl | decide | simp [WShape.has, WShape.arms, WShape.armsAll])
    (show (WTm.eq .res (.lit (.bool true))).value [] { args := args, res := some (.bool true), after := args } = some (.bool (true == true)) from w_eq_bool (w_res rfl) w_lit) rfl

/-! ### the attachment: holds_open's last premise (the goal 'hc' behind k_head) from a wpAny of the law's body -/
theorem attach {l : OpenLaw} {n : Nat} {q : Program} {loose : List Str} {XP : (Str → Option Value) → Heap → Prop} {YP : World → Heap → Prop} {d : DefRec} {x : Str}
    (hn : l.most = some n) (hdf : d.params.defaults = [])
    (hbind : ∀ pm cd doc v : Value, bindArgs (docDef d.name d.params d.body d.scope pm cd doc) ⟨[v], []⟩ = pure [(x, v)])
    (hx : d.scope.names.lookup x = some .local ∨ d.scope.names.lookup x = some .cell)
    (hk : d.scope.kind = .function) (hco : d.scope.isCoroutine = false) (hgen : d.scope.isGenerator = false)
    (body : ∀ (w : World) (s₀ s₁ s : Shared) (mg mb : Str → Option Value) (fa : Addr) (o : Obj) (pm cd doc : Value) (a : Addr) (vs : List Value) (ns : List Int),
      Ground q loose [] XP w s₀ mg mb s₁.heap → YP w s₁.heap →
      s₁.heap.get? fa = some o → o.data = .func (docDef d.name d.params d.body d.scope pm cd doc) → s₁.heap.CodeRec cd d.name → mg d.name = some (.ref fa) →
      s₁.heap.get? a = some { cls := .type "list", data := .seq vs.toArray } → IntsAre vs ns → ns.length ≤ n →
      s.gens = #[] → s.os = s₁.os →
      Fr s₁.heap s₁.heap.objs.size s.heap (bindL (envOfC d.name d.scope s₁.heap.objs.size fa cd).kindOf [(x, .ref a)] fun _ => none) →
      Cl s₁.heap.objs.size (cellsFrom (s₁.heap.objs.size + 1) d.scope.names []) s.heap (bindC (envOfC d.name d.scope s₁.heap.objs.size fa cd).kindOf [(x, .ref a)] fun _ => none) →
      wpAny (model l.prog w) (callerA.deeper (envOfC d.name d.scope s₁.heap.objs.size fa cd)) (execs d.body (envOfC d.name d.scope s₁.heap.objs.size fa cd))
        (fun f s' => f = .ret (.bool true) ∧ OldK s₁.heap s'.heap ∧ s'.os = s₁.os ∧ AllBare s'.gens) (fun _ _ => False) s) :
    WalkO q loose XP YP l.row.toRowW d [] (fun f vs => PySem.call f vs) := by
  intro w s₀ s₁ mg mb G Y fa o pm cd doc dV kV ho hd hcd hD hmg hg args vals as hpre hlay hrd hwl hlo
  obtain rfl : dV = .none := Dflts.none hD hdf
  obtain rfl : kV = .none := Dflts.noKw hD
  obtain ⟨a, vs, ns, rfl, rfl, hobj, hints, hlen⟩ := script_of hn hpre hwl
  refine enter_call ?_
  refine call_cells_ret (o := o) (by rw [depth_caller]; decide) ho (fd_plain hd) G.T.nolimit hcd (hbind pm cd doc (.ref a)) (fun y hy => ?_) (fun h₁ tk F X => ?_) hco hgen hk
  · obtain rfl : y = (x, Value.ref a) := List.mem_singleton.mp hy
    rcases hx with e | e
    · exact .inl e
    · exact .inr ⟨e, cellsFrom_some _ _ _ (.inl e)⟩
  · refine wpAny_mono (body w s₀ s₁ { s₁ with heap := h₁, toks := tk } mg mb fa o pm cd doc a vs ns G Y ho (fd_plain hd) hcd hmg hobj hints hlen hg rfl F X) (fun f s' hq => ?_) (fun _ _ hq => hq)
    obtain ⟨rfl, h2, h3, h4⟩ := hq
    exact ⟨.inl ⟨.bool true, .bool true, [], rfl, fun _ => rfl, .bool true, post_true l _, fun _ => ⟨List.Pairwise.nil, fun _ hm => (nomatch hm)⟩⟩, h2, h3, h4⟩

/-- the same from a codeAny of the CALL (for a layer whose function contracts speak of calls) -/
theorem attach_call {l : OpenLaw} {n : Nat} {q : Program} {loose : List Str} {XP : (Str → Option Value) → Heap → Prop} {YP : World → Heap → Prop} {d : DefRec}
    (hn : l.most = some n) (hdf : d.params.defaults = [])
    (call : ∀ (w : World) (s₀ s₁ : Shared) (mg mb : Str → Option Value) (fa : Addr) (o : Obj) (pm cd doc : Value) (a : Addr) (vs : List Value) (ns : List Int),
      Ground q loose [] XP w s₀ mg mb s₁.heap → YP w s₁.heap →
      s₁.heap.get? fa = some o → o.data = .func (docDef d.name d.params d.body d.scope pm cd doc) → s₁.heap.CodeRec cd d.name → mg d.name = some (.ref fa) →
      s₁.heap.get? a = some { cls := .type "list", data := .seq vs.toArray } → IntsAre vs ns → ns.length ≤ n → s₁.gens = #[] →
      codeAny (model l.prog w) callerA (.call (.ref fa) ⟨[.ref a], []⟩) (fun r s' => r = .ok (.ret (.bool true)) ∧ OldK s₁.heap s'.heap ∧ s'.os = s₁.os ∧ AllBare s'.gens) s₁) :
    WalkO q loose XP YP l.row.toRowW d [] (fun f vs => PySem.call f vs) := by
  intro w s₀ s₁ mg mb G Y fa o pm cd doc dV kV ho hd hcd hD hmg hg args vals as hpre hlay hrd hwl hlo
  obtain rfl : dV = .none := Dflts.none hD hdf
  obtain rfl : kV = .none := Dflts.noKw hD
  obtain ⟨a, vs, ns, rfl, rfl, hobj, hints, hlen⟩ := script_of hn hpre hwl
  refine enter_call (codeAny_mono (call w s₀ s₁ mg mb fa o pm cd doc a vs ns G Y ho (fd_plain hd) hcd hmg hobj hints hlen hg) fun r s' hq => ?_)
  obtain ⟨rfl, h2, h3, h4⟩ := hq
  exact ⟨.inl ⟨.bool true, .bool true, [], rfl, fun _ => rfl, .bool true, post_true l _, fun _ => ⟨List.Pairwise.nil, fun _ hm => (nomatch hm)⟩⟩, h2, h3, h4⟩

/-- the same where the top left finished generators (o_head chose holds_openN): nothing may have changed at all and no generator may be left -/
theorem attachN {l : OpenLaw} {n : Nat} {q : Program} {loose : List Str} {XP : (Str → Option Value) → Heap → Prop} {YP : World → Heap → Prop} {d : DefRec} {x : Str}
    (hn : l.most = some n) (hdf : d.params.defaults = [])
    (hbind : ∀ pm cd doc v : Value, bindArgs (docDef d.name d.params d.body d.scope pm cd doc) ⟨[v], []⟩ = pure [(x, v)])
    (hx : d.scope.names.lookup x = some .local ∨ d.scope.names.lookup x = some .cell)
    (hk : d.scope.kind = .function) (hco : d.scope.isCoroutine = false) (hgen : d.scope.isGenerator = false)
    (body : ∀ (w : World) (s₀ s₁ s : Shared) (mg mb : Str → Option Value) (fa : Addr) (o : Obj) (pm cd doc : Value) (a : Addr) (vs : List Value) (ns : List Int),
      Ground q loose [] XP w s₀ mg mb s₁.heap → YP w s₁.heap →
      s₁.heap.get? fa = some o → o.data = .func (docDef d.name d.params d.body d.scope pm cd doc) → s₁.heap.CodeRec cd d.name → mg d.name = some (.ref fa) →
      s₁.heap.get? a = some { cls := .type "list", data := .seq vs.toArray } → IntsAre vs ns → ns.length ≤ n →
      s.gens = #[] → s.os = s₁.os →
      Fr s₁.heap s₁.heap.objs.size s.heap (bindL (envOfC d.name d.scope s₁.heap.objs.size fa cd).kindOf [(x, .ref a)] fun _ => none) →
      Cl s₁.heap.objs.size (cellsFrom (s₁.heap.objs.size + 1) d.scope.names []) s.heap (bindC (envOfC d.name d.scope s₁.heap.objs.size fa cd).kindOf [(x, .ref a)] fun _ => none) →
      wpAny (model l.prog w) (callerA.deeper (envOfC d.name d.scope s₁.heap.objs.size fa cd)) (execs d.body (envOfC d.name d.scope s₁.heap.objs.size fa cd))
        (fun f s' => f = .ret (.bool true) ∧ (∀ b o, s₁.heap.get? b = some o → s'.heap.get? b = some o) ∧ s'.os = s₁.os ∧ s'.gens = #[]) (fun _ _ => False) s) :
    WalkN q loose XP YP l.row.toRowW d [] (fun f vs => PySem.call f vs) := by
  intro w s₀ s₁ mg mb G Y fa o pm cd doc dV kV ho hd hcd hD hmg hg args vals as hpre hlay hrd hwl hlo
  obtain rfl : dV = .none := Dflts.none hD hdf
  obtain rfl : kV = .none := Dflts.noKw hD
  obtain ⟨a, vs, ns, rfl, rfl, hobj, hints, hlen⟩ := script_of hn hpre hwl
  refine enter_callW ?_
  refine call_cells_ret (o := o) (by rw [depth_caller]; decide) ho (fd_plain hd) G.T.nolimit hcd (hbind pm cd doc (.ref a)) (fun y hy => ?_) (fun h₁ tk F X => ?_) hco hgen hk
  · obtain rfl : y = (x, Value.ref a) := List.mem_singleton.mp hy
    rcases hx with e | e
    · exact .inl e
    · exact .inr ⟨e, cellsFrom_some _ _ _ (.inl e)⟩
  · refine wpAny_mono (body w s₀ s₁ { s₁ with heap := h₁, toks := tk } mg mb fa o pm cd doc a vs ns G Y ho (fd_plain hd) hcd hmg hobj hints hlen hg rfl F X) (fun f s' hq => ?_) (fun _ _ hq => hq)
    obtain ⟨rfl, h2, h3, h4⟩ := hq
    exact ⟨.inl ⟨.bool true, .bool true, [], rfl, fun _ => rfl, .bool true, post_true l _, fun _ => ⟨List.Pairwise.nil, fun _ hm => (nomatch hm)⟩⟩, h2, h3, h4⟩

/-! ### rules over ANY heap (no ledger) from facts about the written part K: the library's own take a ledger (News) for what they write -/
section
variable {prog : Program} {w : World} {A : Around} {E : Value → Shared → Prop} {s : Shared} {K : Frag}

/-- a def of the module, or a method (qual 'C.m'), entered: the frame is the next address; cells behind it -/
theorem call_fn {R : Result → Shared → Prop} {name qual : Str} {params : Arguments} {body : List Stmt} {scope : Scope} {dV kV doc pm cdv ct oc : Value} {an od : Option Addr} {osl : Array (Option Value)} {f : Addr} {args : Args} {binds : List (Str × Value)}
    (X : K.In s.heap) (hlim : s.heap.NoLimit) (ho : K.lookup f = some ⟨oc, od, .func (fnOf name qual params body scope dV kV doc pm an cdv ct), osl⟩) (hcd : codeIn K cdv qual = true) (hroom : A.depth < recursionLimit)
    (hbind : BindsTo s (fnOf name qual params body scope dV kV doc pm an cdv ct) args binds)
    (hkind : (binds.all fun y => scope.names.lookup y.1 == some .local || scope.names.lookup y.1 == some .cell) = true)
    (h : ∀ s₁, InCallC s s.heap.objs.size (bindL (envOfC qual scope s.heap.objs.size f cdv).kindOf binds fun _ => none) (cellsFrom (s.heap.objs.size + 1) scope.names [])
        (bindC (envOfC qual scope s.heap.objs.size f cdv).kindOf binds fun _ => none) s₁ →
      wpAny (model prog w) (A.deeper (envOfC qual scope s.heap.objs.size f cdv)) (execs body (envOfC qual scope s.heap.objs.size f cdv))
        (fun fl s' => R (.ok (.ret (match fl with | .ret v => v | _ => .none))) s')
        (fun e s' => wpAny (model prog w) (A.deeper (envOfC qual scope s.heap.objs.size f cdv)) (leaving (envOfC qual scope s.heap.objs.size f cdv) e) (fun _ s'' => R (.error e) s'') (fun e' s'' => R (.error e') s'') s') s₁)
    (hco : scope.isCoroutine = false) (hgen : scope.isGenerator = false) (hk : scope.kind = .function) : codeAny (model prog w) A (.call (.ref f) args) R s := by
  refine codeAny_call_function hroom (X _ _ ho) rfl hco hgen rfl (codeRec_of X hcd) (hbind _ _ _ _ ?_)
  refine wpAny_newFunctionEnv_cells hk (kindsX hkind _) fun env he s₁ x => ?_
  subst he
  exact ⟨hlim.keeps x.toInCall.keep, codeAny_func (h s₁ x)⟩

/-- C(..): dict at size, instance at size + 1, then __init__ -/
theorem make_obj {R : Result → Shared → Prop} {C fI : Addr} {rest : List Value} {kw : List (Str × Value)}
    (X : K.In s.heap) (hm : makesIn K C = true) (hi : findIn K (.ref C) "__init__" = some (some (.ref fI))) (hf : isFn K (.ref fI) = true)
    (h : codeAny (model prog w) (A.under (.builtin "type.__call__" ⟨.ref C :: rest, kw⟩)) (.call (.ref fI) ⟨.ref (s.heap.objs.size + 1) :: rest, kw⟩) (InitBack (s.heap.objs.size + 1) R)
      { s with heap := (s.heap.push emptyDict).push (instObj C s.heap.objs.size) }) : codeAny (model prog w) A (.call (.ref C) ⟨rest, kw⟩) R s := by
  obtain ⟨hh, g, d, t, os⟩ := s
  exact make_core (makes_of X hm) (looks_findIn X hi) (fun self => bind_fn X self (beq_iff_eq.mp hf)) (.inl rfl) h

/-- x.name where the instance's dict holds the name and the class does not -/
theorem get_field {x C : Addr} {ox : Obj} {es : List DictEntry} {n : Nat} {name : Str} {expr : Bool} {v : Value} {Q : Value → Shared → Prop}
    (X : K.In s.heap) (I : PySem.W.InstAt s.heap x ox C (some (dictOf es n))) (hg : plainGet K C name = true) (hh : hasDictIn K C = true) (ha : findIn K (.ref C) name = some none)
    (hl : getL name es = some (some v)) (hv : handedIn v = true) (h : Q v { s with toks := s.toks + 1 }) : wpAny (model prog w) A (getAttr (.ref x) name expr) Q E s :=
  get_value X I (plainGet_of hg).1 (findObj_own hh ha rfl hl) hv h

/-- x.m(..): the method found in the class -/
theorem get_method {x C f : Addr} {ox : Obj} {es : List DictEntry} {n : Nat} {name : Str} {pl : Sem Bool} {Q : Value × List Value → Shared → Prop}
    (X : K.In s.heap) (I : PySem.W.InstAt s.heap x ox C (some (dictOf es n))) (hg : plainGet K C name = true) (hf : findIn K (.ref C) name = some (some (.ref f))) (ht : isFn K (.ref f) = true)
    (hl : getL name es = some none) (h : Q (.ref f, [.ref x]) s) : wpAny (model prog w) A (getMethod (.ref x) name pl) Q E s :=
  method_fn X I (plainGet_of hg).1 (plainGet_of hg).2 hf (beq_iff_eq.mp ht) (by show (lookIn name (dictOf es n)).map _ = _; rw [lookIn_dict, hl]; rfl) h

/-! the whole heap as the ledger: makes every rule that writes through a ledger a rule over any heap -/
def noObjs (h : Heap) : Heap := { h with objs := #[] }
theorem noObjs_get (h : Heap) (b : Addr) : (noObjs h).get? b = none := by
  cases e : (noObjs h).get? b with
  | none => rfl
  | some o => exact absurd (Heap.lt_size e) (Nat.not_lt_zero _)
def ledger (h : Heap) (L d : Addr) : List (Addr × Obj) := (List.range h.objs.size).filterMap fun a => if a = L ∨ a = d then none else (h.get? a).map fun o => (a, o)
theorem mem_ledger {h : Heap} {L d a : Addr} {o : Obj} : (a, o) ∈ ledger h L d ↔ a ≠ L ∧ a ≠ d ∧ h.get? a = some o := by
  unfold ledger
  rw [List.mem_filterMap]
  constructor
  · rintro ⟨b, _, e⟩
    split at e
    · cases e
    · rename_i hb
      obtain ⟨o', ho, e'⟩ := Option.map_eq_some_iff.mp e
      cases e'
      exact ⟨fun q => hb (.inl q), fun q => hb (.inr q), ho⟩
  · rintro ⟨n1, n2, ho⟩
    refine ⟨a, List.mem_range.mpr (Heap.lt_size ho), ?_⟩
    rw [if_neg (show ¬ (a = L ∨ a = d) from fun q => q.elim n1 n2), ho] <;> rfl
theorem news_ledger {h : Heap} {L d : Addr} {od : Obj} (hne : d ≠ L) (ho : h.get? d = some od) : News (noObjs h) L h ([] ++ (d, od) :: ledger h L d) := by
  rintro ⟨a, o⟩ hp
  rcases List.mem_cons.mp hp with e | hp
  · cases e
    exact ⟨ho, hne, noObjs_get _ _⟩
  · obtain ⟨n1, n2, e⟩ := mem_ledger.mp hp
    exact ⟨e, n1, noObjs_get _ _⟩
theorem fr_all {h : Heap} {L : Addr} {m : Str → Option Value} (n : h.Ns L m) : Fr (noObjs h) L h m :=
  ⟨n, fun b o e => (by rw [noObjs_get] at e; cases e), Nat.zero_le _⟩
/-- Upd of the head entry (for append_K, setItem_K ..) -/
theorem upd_ledger {h : Heap} {L d : Addr} {o o' : Obj} : Upd d o o' ((d, o) :: ledger h L d) ((d, o') :: ledger h L d) :=
  .head fun ⟨_, _⟩ hp => (mem_ledger.mp hp).2.1

/-- x.name = v over any heap: L is any namespace of the heap (the frame's, say): its map stays, its object is not told; all else but the dict stays -/
theorem set_field {x C dx L : Addr} {ox : Obj} {m : Str → Option Value} {es es' : List DictEntry} {n n' : Nat} {name : Str} {v : Value} {Q : Unit → Shared → Prop}
    (X : K.In s.heap) (I : PySem.W.InstAt s.heap x ox C (some (dictOf es n))) (hd : ox.dict = some dx) (hL : s.heap.Ns L m) (hne : dx ≠ L)
    (hs : findIn K (.ref C) "__setattr__" = some (some (.builtin "object.__setattr__"))) (hp : plainOver K C = true) (ht : takerIn K C name = some none) (hh : hasDictIn K C = true) (hl : (getL name es).isSome = true)
    (e : (putL name (PyData.keyHash w.params name) (.str name (s.toks + 1)) v es, putN name es n) = (es', n')) (hz : es'.length ≤ 1000)
    (h : ∀ h' : Heap, h'.Ns L m → h'.get? dx = some (dictOf es' n') → (∀ b o, b ≠ dx → b ≠ L → s.heap.get? b = some o → h'.get? b = some o) → Q () { s with heap := h', toks := s.toks + 2 }) :
    wpAny (model prog w) A (setAttr (.ref x) name v) Q E s := by
  obtain ⟨e1, e2⟩ := Prod.mk.inj e
  have hdx : s.heap.get? dx = some (dictOf es n) := by
    have := I.dict
    rw [hd] at this
    exact this
  refine set_plain X I hs (osa_dict (s := { s with toks := s.toks + 1 }) (h₀ := noObjs s.heap) (L := L) (m := m) (od := dictOf es n) (od' := dictOf es' n') (es := es') (n := n') (pre := []) (post := ledger s.heap L dx)
    (fr_all hL) (news_ledger hne hdx) X I hd hp ht hh hl (fun _ q => nomatch q) (fun ⟨_, _⟩ q => (mem_ledger.mp q).2.1) (by rw [putName_dict, e1, e2]) rfl hz fun h' F' N' => ?_)
  exact h h' F'.ns (N'.get (List.Mem.head _)) fun b o n1 n2 ho => N'.get (List.Mem.tail _ (mem_ledger.mpr ⟨n2, n1, ho⟩))
end
end Att

namespace L2
open PySem PySem.Spec PyProof.Rows

theorem vals_ints : ∀ {vs : List Value} {ns : List Int}, IntsAre vs ns → Vals (ns.map V.int) vs
  | _, _, .nil => .nil
  | _, _, .cons n t h => .cons ⟨t, rfl⟩ (vals_ints h)

/-- nothing is tracked but the script, known to the object (or it is an object of the module) -/
def Only (H : Hp) : Prop := ∀ b, H b = none ∨ ∃ o xs, H b = some (.frz o (.lst xs))

/-- THE HEAD: the law's promise, at the heap behind the top. F, the promise of the law's def, may use that base is part of the heap (so K.In base, base.Ns mainGlobals mg stand in Mod) -/
theorem law_call {P : Program} {w : World} {K : PySem.W.Frag} {mg mb : Str → Option Value} {CX : CXT} {k : Nat} {fa a : Addr} {fd : FuncData} {x : Str} {sp : Sp} {s₁ : Shared} {vs : List Value} {ns : List Int}
    (KX : K.In s₁.heap) (hns : s₁.heap.Ns mainGlobals mg) (hb : s₁.heap.Ns builtinsNs mb) (hbb : ∀ x : Str, x ≠ "__name__" → mb x = bootBuiltins x) (hlim : s₁.heap.NoLimit) (hg : s₁.gens = #[])
    (ha : s₁.heap.get? a = some { cls := .type "list", data := .seq vs.toArray }) (hi : IntsAre vs ns) (hl : ns.length ≤ sizeLine) (hr : Room k callerA)
    (F : ∀ base : Heap, K.In base → base.Ns mainGlobals mg → FnOk P w K mg base CX k fa fd [x] sp) (hbind : ∀ (s : Shared) (u : Value), BindsTo s fd ⟨[u], []⟩ [(x, u)])
    (hsp : ∀ H : Hp, Only H → SqL K H a (ns.map V.int) → sp [.ref a] H (fun v _ => v = .bl true) fun _ _ _ => False)
    (hCX : ∀ H e s', CX [] H s₁ (fun _ _ _ => False) e s' → False) :
    codeAny (model P w) callerA (.call (.ref fa) ⟨[.ref a], []⟩) (fun r s' => r = .ok (.ret (.bool true)) ∧ OldK s₁.heap s'.heap ∧ s'.os = s₁.os ∧ AllBare s'.gens) s₁ := by
  have rv := vals_ints hi
  have lenV := hi.length
  -- from an abstract heap in which nothing but the script may be tracked
  have core : ∀ H : Hp, Only H → SqL K H a (ns.map V.int) → HOk P w H s₁.heap → (∀ b, H b ≠ none → b = a) → (H a ≠ none → K.lookup a = none) →
      codeAny (model P w) callerA (.call (.ref fa) ⟨[.ref a], []⟩) (fun r s' => r = .ok (.ret (.bool true)) ∧ OldK s₁.heap s'.heap ∧ s'.os = s₁.os ∧ AllBare s'.gens) s₁ := by
    intro H hO hS hok hA hK
    have base_of : ∀ {b : Addr} {o : Obj}, s₁.heap.get? b = some o → H b = none → (hidT s₁.heap H).get? b = some o := fun e n => hidT_get e n
    have noA : ∀ {b : Addr} {o : Obj} {es : Array DictEntry} {ep : Nat}, s₁.heap.get? b = some o → o.data = .dict es ep → H b = none := fun {b o es ep} e d => by
      cases q : H b with
      | none => rfl
      | some u =>
        have e' : b = a := hA b (by rw [q]; simp)
        subst e'
        rw [ha] at e; cases e
        have d' : Data.seq vs.toArray _ = Data.dict es ep := d
        cases d'
    have nsK : ∀ {b : Addr} {m : Str → Option Value}, s₁.heap.Ns b m → (hidT s₁.heap H).Ns b m := fun {b m} ⟨o, es, ep, e, d, r⟩ => ⟨o, es, ep, base_of e (noA e d), d, r⟩
    have hKb : K.In (hidT s₁.heap H) := fun b o e => base_of (KX b o e) (by
      cases q : H b with
      | none => rfl
      | some u =>
        have e' : b = a := hA b (by rw [q]; simp)
        subst e'
        rw [hK (by rw [q]; simp)] at e; cases e)
    have hM : Mod K mg (hidT s₁.heap H) := ⟨hKb, nsK hns, ⟨mb, nsK hb, hbb⟩, let ⟨mc, h1, h2⟩ := hlim; ⟨mc, nsK h1, h2⟩⟩
    have e0 : Env0 P w K mg (hidT s₁.heap H) callerA [] s₁ H := ⟨rfl, hM, fun b o e => of_hidT e, Nat.le_of_eq (hidT_size _ _), trivial, fun b hb => absurd (show b ∈ ([] : List Addr) from hb) (by simp), hok, .of_eq hg⟩
    refine codeAny_mono ((F _ hKb (nsK hns)).run callerA [] s₁ H ⟨[.ref a], []⟩ [.ref a] [.ref a] _ _ hr e0 (hbind s₁ (.ref a)) (.cons rfl .nil) (hsp H hO hS)) fun r s' h => ?_
    cases r with
    | error e => exact (hCX H e s' h).elim
    | ok fl =>
      cases fl with
      | next => exact False.elim h
      | brk => exact False.elim h
      | cont => exact False.elim h
      | ret u =>
        obtain ⟨v, H', os, bare, un, hok', r', q⟩ := h
        have q' : v = .bl true := q
        subst q'
        obtain rfl : u = Value.bool true := r'
        refine ⟨rfl, OldK.of_keep fun b o e => ?_, os, bare⟩
        cases q : H b with
        | none => exact un.keep b o e q (by intro z; exact absurd (show b ∈ ([] : List Addr) from z) (by simp)) (by simp)
        | some u =>
          rcases hO b with z | ⟨ob, xs, z⟩
          · rw [q] at z; cases z
          · have z2 := un.frzs b ob _ z
            obtain ⟨e1, _⟩ := hok b _ z
            obtain ⟨e2, _⟩ := hok' b _ z2
            rw [e] at e1; cases e1
            exact e2
  cases hk : K.lookup a with
  | some o =>
    -- the script is one of the module's own objects
    have e := KX a o hk
    rw [ha] at e
    cases e
    refine core (fun _ => none) (fun _ => .inl rfl) (.inr ⟨_, vs.toArray, _, hk, rfl, rfl, rfl, by rw [List.size_toArray, lenV]; exact hl, by simpa using rv⟩) (fun b u z => by have z' : (none : Option HO) = some u := z; cases z') (fun b z => absurd rfl z) fun z => absurd rfl z
  | none =>
    refine core (fun b => if b = a then some (.frz { cls := .type "list", data := .seq vs.toArray } (.lst (ns.map V.int))) else none) (fun b => ?_) (.inl (.inr ⟨{ cls := .type "list", data := .seq vs.toArray }, if_pos rfl⟩)) (fun b u z => ?_) (fun b z => ?_) fun _ => hk
    · by_cases hb : b = a
      · exact .inr ⟨_, _, if_pos hb⟩
      · exact .inl (if_neg hb)
    · by_cases hb : b = a
      · have z' := (if_pos hb).symm.trans z
        cases z'
        subst hb
        exact ⟨ha, by rw [List.length_map]; exact hl, vs, _, rv, ha⟩
      · have z' := (if_neg hb).symm.trans z
        cases z'
    · by_cases hb : b = a
      · exact hb
      · exact absurd (if_neg hb) z
end L2

namespace L2
open PySem PySem.Spec PyProof.Rows

abbrev KOf {K : PySem.W.Frag} {h : Heap} (_ : K.In h) : PySem.W.Frag := K

/-- the goal that k_head leaves (case hc), from the law's promise. F gives the function object fd (K's own) once, then the promise over every base -/
theorem walk_of {l : PySem.W.OpenLaw} {n k : Nat} {q : Program} {loose : List Str} {XP : (Str → Option Value) → Heap → Prop} {YP : World → Heap → Prop} {d : DefRec} {K : Params → PySem.W.Frag} {CX : World → CXT} {sp : World → Sp} {x : Str}
    (hn : l.most = some n) (hn2 : n ≤ sizeLine) (hdf : d.params.defaults = []) (hr : Room k callerA)
    (hY : ∀ (w : World) (h : Heap), YP w h → (K w.params).In h)
    (F : ∀ (w : World) (mg : Str → Option Value) (fa : Addr) (h : Heap), (K w.params).In h → h.Ns mainGlobals mg → mg d.name = some (.ref fa) →
      ∃ fd : FuncData, (∀ (s : Shared) (u : Value), BindsTo s fd ⟨[u], []⟩ [(x, u)]) ∧
        ∀ base : Heap, (K w.params).In base → base.Ns mainGlobals mg → FnOk l.prog w (K w.params) mg base (CX w) k fa fd [x] (sp w))
    (hsp : ∀ (w : World) (H : Hp) (a : Addr) (ns : List Int), ns.length ≤ n → Only H → SqL (K w.params) H a (ns.map V.int) → sp w [.ref a] H (fun v _ => v = .bl true) fun _ _ _ => False)
    (hCX : ∀ (w : World) (H : Hp) (s : Shared) (e : Value) (s' : Shared), CX w [] H s (fun _ _ _ => False) e s' → False) :
    PySem.W.WalkO q loose XP YP l.row.toRowW d [] (fun f vs => PySem.call f vs) := by
  refine Att.attach_call hn hdf fun w s₀ s₁ mg mb fa o pm cd doc a vs ns G Y ho hd hcd hmg hobj hints hlen hg => ?_
  have KX := hY w _ Y
  obtain ⟨fd, hb, hF⟩ := F w mg fa _ KX G.T.g hmg
  exact law_call KX G.T.g G.T.b G.T.builtins G.T.nolimit hg hobj hints (Nat.le_trans hlen hn2) hr hF hb (fun H hO hS => hsp w H a ns hlen hO hS) fun H e s' => hCX w H s₁ e s'
/-- the same where the promise hangs on the written part alone: (sp := My.sp_law), no hole under a binder -/
theorem walk_ofK {l : PySem.W.OpenLaw} {n k : Nat} {q : Program} {loose : List Str} {XP : (Str → Option Value) → Heap → Prop} {YP : World → Heap → Prop} {d : DefRec} {K : Params → PySem.W.Frag} {CX : CXT} {sp : PySem.W.Frag → Sp} {x : Str}
    (hn : l.most = some n) (hn2 : n ≤ sizeLine) (hdf : d.params.defaults = []) (hr : Room k callerA)
    (hY : ∀ (w : World) (h : Heap), YP w h → (K w.params).In h)
    (F : ∀ (w : World) (mg : Str → Option Value) (fa : Addr) (h : Heap), (K w.params).In h → h.Ns mainGlobals mg → mg d.name = some (.ref fa) →
      ∃ fd : FuncData, (∀ (s : Shared) (u : Value), BindsTo s fd ⟨[u], []⟩ [(x, u)]) ∧
        ∀ base : Heap, (K w.params).In base → base.Ns mainGlobals mg → FnOk l.prog w (K w.params) mg base CX k fa fd [x] (sp (K w.params)))
    (hsp : ∀ (K : PySem.W.Frag) (H : Hp) (a : Addr) (ns : List Int), ns.length ≤ n → Only H → SqL K H a (ns.map V.int) → sp K [.ref a] H (fun v _ => v = .bl true) fun _ _ _ => False)
    (hCX : ∀ (H : Hp) (s : Shared) (e : Value) (s' : Shared), CX [] H s (fun _ _ _ => False) e s' → False) :
    PySem.W.WalkO q loose XP YP l.row.toRowW d [] (fun f vs => PySem.call f vs) :=
  walk_of (K := K) (CX := fun _ => CX) (sp := fun w => sp (K w.params)) hn hn2 hdf hr hY F (fun w H a ns h1 h2 h3 => hsp (K w.params) H a ns h1 h2 h3) fun _ H s e s' => hCX H s e s'
end L2

/- THE LAST THEOREM (shape; LID, My.* are yours):
   My.Adr: a structure of the addresses that your layer names (classes, functions); My.Txt K t: a structure (Prop) of the equations over K;
   My.txt_mk : {K} {implicit addresses ..} (e1 : nsIn K mainGlobals "law" = some (some (.ref f))) (e2 : K.lookup f = some ⟨oc, od, .func (fnOf "law" "law" params body scope dV kV doc pm an cdv ct), sl⟩) (e3 : codeIn K cdv "law" = true) .. : ∃ t, My.Txt K t

set_option maxRecDepth 100000 in
set_option maxHeartbeats 0 in
theorem PySem.Challenge.cw_LID_holds : PySem.Challenge.rw_LID.Holds := by
  w_on; o_law; k_head; (case hw => w_witness2)
  k_fill
  refine L2.walk_of (l := PySem.Challenge.rw_LID) (n := 63) (k := 40) (x := "script") (CX := fun w => ..) (sp := fun _ => My.sp_law) rfl (by decide) rfl ⟨rfl, by decide, by decide⟩ (fun w h Y => PySem.W.kIn_of Y) ?F ?S ?C
  case F =>
    intro w mg fa h KX G hmg
    have T : ∃ t, My.Txt (L2.KOf KX) t := by
      dsimp only [L2.KOf]                          -- K must stand as «<heap const> w.params» for k_is
      refine' My.txt_mk ?e1 ?e2 ?e3 ..
      (case e1 => PySem.W.k_is)                    -- in the order: a name -> its address -> its object -> its parts
      (case e2 => PySem.W.k_is)
      ..
    obtain ⟨t, T⟩ := T
    have e0 := hmg.symm.trans (PySem.W.mg_of KX G T.law)
    cases e0                                       -- fa is the law's own address
    exact ⟨_, fun s u => .of_eq rfl, fun base kb nb => My.law_fn T kb nb⟩     -- if «.of_eq rfl» comes too early: refine' ⟨_, ?b, fun base kb nb => My.law_fn T kb nb⟩; exact fun s u => .of_eq rfl
  case S => exact fun w H a ns hl hO hS => ..
  case C => exact ..
(the tactic k_is has no namespace: write k_is) -/

/-! SHORT WORDS over the layer: a def of the text, its body, what a loop and a test want. -/
namespace L2
open PySem PySem.Spec PyProof.Rows

/-! ### the text by places -/
/-- the j-th statement of a class's body -/
def inClass (s : Stmt) (j : Nat) : Stmt := match s with
  | .ClassDef _ _ _ body _ _ _ _ _ _ _ => body.getD j (.Pass ⟨0, 0, 0, 0⟩)
  | _ => .Pass ⟨0, 0, 0, 0⟩
def defArgs (s : Stmt) : Arguments := match s with
  | .FunctionDef _ a _ _ _ _ _ _ _ _ => a
  | _ => { posonlyargs := [], args := [], vararg := none, kwonlyargs := [], kw_defaults := [], kwarg := none, defaults := [] }
def defBody (s : Stmt) : List Stmt := match s with
  | .FunctionDef _ _ b _ _ _ _ _ _ _ => b
  | _ => []
def defScope (s : Stmt) : Scope := match s with
  | .FunctionDef _ _ _ _ _ _ sc _ _ _ => sc
  | _ => { kind := .function, names := [], isGenerator := false, isCoroutine := false }

/-! ### no exception leaves a def -/
abbrev CX0 : CXT := fun _ _ _ _ _ _ => False
abbrev E0 : XK := fun _ _ _ => False
theorem pass0 {X : Cx} : Passes CX0 X E0 := fun _ _ _ _ _ _ _ h => h.elim

/-! ### a def (or method) of the text as it stands behind the top -/
structure Fun (K : PySem.W.Frag) (x qual : Str) (st : Stmt) (f : Addr) (fd : FuncData) : Prop where
  ex : ∃ (oc : Value) (od : Option Addr) (kV doc pm : Value) (an : Option Addr) (cdv ct : Value) (osl : Array (Option Value)),
    fd = PySem.W.fnOf x qual (defArgs st) (defBody st) (defScope st) .none kV doc pm an cdv ct ∧ K.lookup f = some ⟨oc, od, .func fd, osl⟩ ∧ PySem.W.codeIn K cdv qual = true
  kp : PySem.W.keepIn K (.ref f) = true
section
variable {P : Program} {w : World} {K : PySem.W.Frag} {mg : Str → Option Value} {base : Heap}
/-- THE RULE for a def: its body as a term of rules, and the reading of that term -/
theorem Fun.ok {x qual : Str} {st : Stmt} {f : Addr} {fd : FuncData} {N ps : List Str} {k : Nat} {sp : Sp} (F : Fun K x qual st f fd) (S : FnScope N ps (defScope st)) (len : ∀ vs H Q E, sp vs H Q E → vs.length = ps.length)
    (hbody : ∀ (cdv : Value) (A : Around) (outer : List Env) (s : Shared) (H : Hp) (vs : List V) (Q : VK) (E : XK), Room k (A.deeper (envOfC qual (defScope st) s.heap.objs.size f cdv)) → sp vs H Q E →
      ∃ t, PSs (cxOf CX0 P w K mg base N qual (defScope st) f cdv A outer s H E).nox (defBody st) t ∧ t { nx := fun _ H' => Q .non H', rt := Q } (start N vs) H) : FnOk P w K mg base CX0 (k + 1) f fd ps sp := by
  obtain ⟨oc, od, kV, doc, pm, an, cdv, ct, osl, rfl, lk, hcd⟩ := F.ex
  refine fn_of lk hcd S len fun A outer s H vs Q E hr hsp => ?_
  obtain ⟨t, h, q⟩ := hbody cdv A outer s H vs Q E hr hsp
  exact ⟨t, h.nox, q⟩
/-- how its arguments bind (no defaults): h is «fun _ _ _ _ _ _ us hl => match us, hl with | [_, _], _ => rfl», one _ a parameter -/
theorem Fun.binds {x qual : Str} {st : Stmt} {f : Addr} {fd : FuncData} {ps : List Str} (F : Fun K x qual st f fd)
    (h : ∀ (kV doc pm : Value) (an : Option Addr) (cdv ct : Value) (us : List Value), us.length = ps.length → bindArgs (PySem.W.fnOf x qual (defArgs st) (defBody st) (defScope st) .none kV doc pm an cdv ct) ⟨us, []⟩ = pure (ps.zip us)) : Binds K fd ps [] := by
  obtain ⟨oc, od, kV, doc, pm, an, cdv, ct, osl, rfl, lk, hcd⟩ := F.ex
  exact .all (h kV doc pm an cdv ct)
theorem fun_mk {x qual : Str} {st : Stmt} {f : Addr} {oc : Value} {od an : Option Addr} {osl : Array (Option Value)} {kV doc pm cdv ct : Value} (l : K.lookup f = some ⟨oc, od, .func (PySem.W.fnOf x qual (defArgs st) (defBody st) (defScope st) .none kV doc pm an cdv ct), osl⟩)
    (c : PySem.W.codeIn K cdv qual = true) (k : PySem.W.keepIn K (.ref f) = true) : Fun K x qual st f (PySem.W.fnOf x qual (defArgs st) (defBody st) (defScope st) .none kV doc pm an cdv ct) := ⟨⟨oc, od, kV, doc, pm, an, cdv, ct, osl, rfl, l, c⟩, k⟩
end
theorem hu_of {A : Around} {k : Nat} (hr : Room k A) : A.units + 1 < cLine := Nat.lt_of_le_of_lt (Nat.add_le_add_left (by decide : 1 ≤ 64) _) hr.units
theorem small1000 {n : Nat} (h : n ≤ 1000) : n < sizeLine := Nat.lt_of_le_of_lt h (by decide)

/-! ### expressions in short: the name that stands in the i-th slot -/
section
variable {X : Cx}
theorem pv (i : Nat) {x : Str} {pos : Pos} (hN : X.N[i]? = some x := by rfl) (hv : Vis X.env.scope x := by first | exact Or.inl rfl | exact Or.inr (Or.inl rfl) | exact Or.inr (Or.inr rfl)) (hd : (x == ("__debug__" : Str)) = false := by decide)
    (hcd : (x == ("__classdict__" : Str)) = false := by decide) : PE X (.Name x pos) (tVar i) := pe_var hN hv hd hcd
end

/-! ### tests -/
theorem iteF {A B : Prop} (h : B) : if false = true then A else B := by
  rw [if_neg Bool.false_ne_true]
  exact h
theorem iteT {A B : Prop} (h : A) : if true = true then A else B := by
  rw [if_pos rfl]
  exact h
theorem ite2 {c A B : Prop} [Decidable c] (h1 : c → A) (h2 : ¬ c → B) : if c then A else B := by
  by_cases h : c
  · rw [if_pos h]
    exact h1 h
  · rw [if_neg h]
    exact h2 h
theorem iteNS {c A B : Prop} [Decidable c] (hc : c) (h : B) : if (!decide c) = true then A else B := by
  rw [decide_eq_true hc]
  exact iteF h

/-! ### heaps -/
/-- all that was tracked is as it was -/
def Same (H H' : Hp) : Prop := ∀ b o, H b = some o → H' b = some o
theorem Same.refl (H : Hp) : Same H H := fun _ _ h => h
theorem Same.trans {H H1 H2 : Hp} (a : Same H H1) (b : Same H1 H2) : Same H H2 := fun c o h => b c o (a c o h)
theorem Same.free {H H' : Hp} (e : Same H H') {l : Addr} (h : H' l = Option.none) : H l = Option.none := by
  cases q : H l with
  | none => rfl
  | some o =>
    rw [e l o q] at h
    cases h
theorem Same.seq {K : PySem.W.Frag} {H H' : Hp} {a : Addr} {xs : List V} (e : Same H H') (h : SqL K H a xs) : SqL K H' a xs := by
  rcases h with (h | ⟨o, h⟩) | h
  · exact .inl (.inl (e _ _ h))
  · exact .inl (.inr ⟨o, e _ _ h⟩)
  · exact .inr h

end L2
namespace L2
open PySem PySem.Spec PyProof.Rows

/-! ### a def of the text that keeps a promise, as its callers see it -/
def Has (P : Program) (w : World) (K : PySem.W.Frag) (mg : Str → Option Value) (base : Heap) (k : Nat) (x : Str) (ps : List Str) (sp : Sp) : Prop :=
  ∃ (f : Addr) (fd : FuncData), FnOk P w K mg base CX0 k f fd ps sp ∧ mg x = some (.ref f) ∧ PySem.W.keepIn K (.ref f) = true ∧ Binds K fd ps []
def tCallH (sp : Sp) (t : TA) : TE := fun σ H Q => t σ H fun vs H1 => sp vs H1 Q E0
section
variable {X : Cx} {k : Nat} {ps : List Str} {sp : Sp} {x : Str} {p pos : Pos} {e a c : Expr} {es : List Expr} {t : TA}
theorem pe_callH (C : Has X.prog X.w X.K X.mg X.base k x ps sp) (hr : Room k X.A) (hg : Gl X x) (ha : PA X (e :: es) t) (hdb : (x == ("__debug__" : Str)) = false := by decide) (he : starEach (e :: es) X.env = (false, eval e X.env) :: starEach es X.env := by rfl)
    (hpl : (backTo pos (starEach es X.env)).any (·.1) = false := by rfl) : PE X (.Call (.Name x p) (e :: es) [] pos) (tCallH sp t) := by
  obtain ⟨f, fd, F, hm, hk, hb⟩ := C
  intro pins s σ H Q I h
  refine wpAny_Call_Name_kw (ld_glob I hg hm ?_ hdb)
  refine PySem.W.callWith_K (h₀ := X.base) I.ok.mod.kin hk (thn (ha pos pins s σ H _ I h) fun us s1 ⟨vs, H1, I1, r, q⟩ => ⟨I1.kIn, ?_⟩) he hpl
  exact run_fn (dvs := []) F hr hb .nil pass0 I1 r (by rw [List.append_nil]; exact q)

/-! ### isinstance -/
theorem call_isinst : CallR X (.builtin "isinstance") (fun xs H Q => ∃ x n ty b, xs = [x, .ty n] ∧ TyOf X.K H x ty ∧ PySem.W.kitOne X.K ty (.type n) = some b ∧ Q (.bl b) H) := by
  intro pins s σ H xs us Q I r h
  obtain ⟨x, n, ty, b, rfl, hT, hk, q⟩ := h
  obtain ⟨u, w', rfl, r1, r2⟩ := vals2 r
  cases (show w' = Value.type n from r2)
  exact isinst_ok I r1 hT hk fun tk => ⟨.bl b, H, I.tok _, rfl, q⟩
end
theorem kit_same (K : PySem.W.Frag) (n : String) : PySem.W.kitOne K (.type n) (.type n) = some true := by
  unfold PySem.W.kitOne
  rw [if_pos (beq_self_eq_true _)]
theorem kit_no (K : PySem.W.Frag) {n m : String} (h1 : (Value.type n == Value.type m) = false) (h2 : PySem.W.kitMeta m = true) (h3 : (fastBuiltinMro n).map (·.contains (Value.type m)) = some false) : PySem.W.kitOne K (.type n) (.type m) = some false := by
  unfold PySem.W.kitOne
  rw [if_neg (by rw [h1]; exact Bool.false_ne_true)]
  show (if PySem.W.kitMeta m = true then PySem.W.subIn K (.type n) (.type m) else none) = some false
  rw [if_pos h2]
  exact h3
theorem kit_int_bool (K : PySem.W.Frag) : PySem.W.kitOne K (.type "int") (.type "bool") = some false := kit_no K (by decide +kernel) (by decide +kernel) (by decide +kernel)

/-! ### ifs whose test is known -/
theorem ifp {b : Bool} {A B : Prop} (h : b = true) (k : A) : if b = true then A else B := by rw [if_pos h]; exact k
theorem ifn {b : Bool} {A B : Prop} (h : b = false) (k : B) : if b = true then A else B := by rw [if_neg (by rw [h]; exact Bool.false_ne_true)]; exact k
theorem if2 {b : Bool} {A B : Prop} (h1 : b = true → A) (h2 : b = false → B) : if b = true then A else B := by
  cases b with
  | true => exact ifp rfl (h1 rfl)
  | false => exact ifn rfl (h2 rfl)
theorem eqT {x y : Int} (h : x = y) : decide (V.int x = V.int y) = true := by rw [h]; exact decide_eq_true rfl
theorem eqF {x y : Int} (h : x ≠ y) : decide (V.int x = V.int y) = false := decide_eq_false fun z => h (V.int.inj z)
theorem of_eqT {x y : Int} (h : decide (V.int x = V.int y) = true) : x = y := V.int.inj (of_decide_eq_true h)
theorem of_eqF {x y : Int} (h : decide (V.int x = V.int y) = false) : x ≠ y := fun z => of_decide_eq_false h (by rw [z])
theorem neF {x y : Int} (h : x = y) : (!decide (V.int x = V.int y)) = false := by rw [eqT h]; rfl
theorem neT {x y : Int} (h : x ≠ y) : (!decide (V.int x = V.int y)) = true := by rw [eqF h]; rfl
theorem notF {b : Bool} (h : b = true) : (!b) = false := by rw [h]; rfl
theorem notT {b : Bool} (h : b = false) : (!b) = true := by rw [h]; rfl
/-- an item of a list of ints, at a place in it -/
theorem atI_int {ns : List Int} {i : Int} (h0 : 0 ≤ i) (h1 : i < ns.length) : ∃ c, ns[i.toNat]? = some c ∧ atI (ns.map V.int) i = some (.int c) := by
  have hl : i.toNat < ns.length := by omega
  refine ⟨ns[i.toNat], List.getElem?_eq_getElem hl, ?_⟩
  have q : atI (ns.map V.int) ((i.toNat : Nat) : Int) = some (.int ns[i.toNat]) := atI_nat (by rw [List.getElem?_map, List.getElem?_eq_getElem hl]; rfl)
  rw [Int.toNat_of_nonneg h0] at q
  exact q
theorem mask31 (x : Int) : Builtin.bitAnd x 2147483647 = x % 2147483648 := PySem.W.kbt_mask x 31
end L2
namespace L2
open PySem PySem.Spec PyProof.Rows

/-! ### == and != of tuples and lists whose items are ints and texts -/
def plainV : V → Bool
  | .int _ => true
  | .str _ => true
  | _ => false
theorem plain_flat {x : V} (h : plainV x = true) : flatV x = true := by
  cases x <;> (try (exact Bool.noConfusion (show false = true from h))) <;> rfl
theorem plain_all {xs : List V} (h : xs.all plainV = true) : xs.all flatV = true := by
  rw [List.all_eq_true] at h ⊢
  exact fun x hx => plain_flat (h x hx)
theorem eqV_plain {x y : V} (hx : plainV x = true) (hy : plainV y = true) : eqV x y = decide (x = y) := by
  cases x <;> (try (exact Bool.noConfusion (show false = true from hx))) <;> cases y <;> (try (exact Bool.noConfusion (show false = true from hy))) <;> (rw [Bool.eq_iff_iff]; simp [eqV])
def eqE (xs ys : List V) (j : Nat) : Bool := eqV (xs.getD j .non) (ys.getD j .non)
theorem eq_all : ∀ {xs ys : List V}, xs.all plainV = true → ys.all plainV = true → ((List.range (min xs.length ys.length)).all (eqE xs ys) && xs.length == ys.length) = decide (xs = ys)
  | [], [], _, _ => by simp
  | [], y :: ys, _, _ => by simp
  | x :: xs, [], _, _ => by simp
  | x :: xs, y :: ys, hx, hy => by
    rw [List.all_cons, Bool.and_eq_true] at hx hy
    have ih := eq_all hx.2 hy.2
    have e : min (x :: xs).length (y :: ys).length = min xs.length ys.length + 1 := by simp only [List.length_cons]; omega
    rw [e, List.range_succ_eq_map, List.all_cons, List.all_map]
    have e2 : (List.range (min xs.length ys.length)).all (eqE (x :: xs) (y :: ys) ∘ Nat.succ) = (List.range (min xs.length ys.length)).all (eqE xs ys) := by
      congr 1
    have e3 : eqE (x :: xs) (y :: ys) 0 = decide (x = y) := eqV_plain hx.1 hy.1
    have e4 : ((x :: xs).length == (y :: ys).length) = (xs.length == ys.length) := by
      rw [Bool.eq_iff_iff]; simp
    rw [e2, e3, e4, Bool.and_assoc, ih, Bool.eq_iff_iff]
    simp
theorem eq_at {A : Around} {s : Shared} {xs ys : List V} {its its2 : List Value} (hx : xs.all plainV = true) (hy : ys.all plainV = true) (r : Vals xs its) (r2 : Vals ys its2) :
    ∀ j (h1 : j < its.toArray.size) (h2 : j < its2.toArray.size), SeqAt.EqAt A s its.toArray[j] its2.toArray[j] (eqE xs ys j) := by
  intro j h1 h2
  have e1 := r.length
  have e2 := r2.length
  rw [List.size_toArray] at h1 h2
  have g1 : xs[j]? = some xs[j] := by simp
  have g2 : ys[j]? = some ys[j] := by simp
  obtain ⟨u, hu, ru⟩ := r.get g1
  obtain ⟨v, hv, rv⟩ := r2.get g2
  have z1 : its.toArray[j]'(by rw [List.size_toArray]; exact h1) = u := by
    have := List.getElem?_eq_some_iff.mp hu
    obtain ⟨_, q⟩ := this
    simpa using q
  have z2 : its2.toArray[j]'(by rw [List.size_toArray]; exact h2) = v := by
    have := List.getElem?_eq_some_iff.mp hv
    obtain ⟨_, q⟩ := this
    simpa using q
  rw [z1, z2]
  have q1 : eqE xs ys j = eqV xs[j] ys[j] := by
    unfold eqE
    rw [List.getD_eq_getElem?_getD, List.getD_eq_getElem?_getD, g1, g2]
    rfl
  rw [q1]
  exact eqAt_V ru rv (plain_flat ((List.all_eq_true.mp hx) _ (List.getElem_mem _))) (plain_flat ((List.all_eq_true.mp hy) _ (List.getElem_mem _)))
section
variable {X : Cx}
def rEqT (K : PySem.W.Frag) (g : Bool → Bool) : R2 := fun x y H Q => ∃ a b xs ys, x = .ref a ∧ y = .ref b ∧ SqT K H a xs ∧ SqT K H b ys ∧ xs.all plainV = true ∧ ys.all plainV = true ∧ Q (.bl (g (decide (xs = ys)))) H
def rEqL (K : PySem.W.Frag) (g : Bool → Bool) : R2 := fun x y H Q => ∃ a b xs ys, x = .ref a ∧ y = .ref b ∧ SqL K H a xs ∧ SqL K H b ys ∧ xs.all plainV = true ∧ ys.all plainV = true ∧ Q (.bl (g (decide (xs = ys)))) H
theorem size_eqs {xs ys : List V} {its its2 : List Value} (hx : xs.all plainV = true) (hy : ys.all plainV = true) (r : Vals xs its) (r2 : Vals ys its2) :
    ((List.range (min its.toArray.size its2.toArray.size)).all (eqE xs ys) && its.toArray.size == its2.toArray.size) = decide (xs = ys) := by
  rw [List.size_toArray, List.size_toArray, ← r.length, ← r2.length]
  exact eq_all hx hy
theorem op_eqT (hu : X.A.units < cLine) : OpR X (compareOp .Eq) (rEqT X.K fun b => b) := by
  intro pins s σ H x y v u Q I rx ry h
  obtain ⟨a, b, xs, ys, rfl, rfl, ha, hb, fx, fy, q⟩ := h
  cases rx; cases ry
  obtain ⟨its, r, p, hz⟩ := I.tuple ha
  obtain ⟨its2, r2, p2, hz2⟩ := I.tuple hb
  refine SeqAt.eq_tupleAt (e := eqE xs ys) p p2 hu (eq_at fx fy r r2) ⟨.bl _, H, I, rfl, ?_⟩
  rw [size_eqs fx fy r r2]
  exact q
theorem op_neT (hu : X.A.units < cLine) : OpR X (compareOp .NotEq) (rEqT X.K fun b => !b) := by
  intro pins s σ H x y v u Q I rx ry h
  obtain ⟨a, b, xs, ys, rfl, rfl, ha, hb, fx, fy, q⟩ := h
  cases rx; cases ry
  obtain ⟨its, r, p, hz⟩ := I.tuple ha
  obtain ⟨its2, r2, p2, hz2⟩ := I.tuple hb
  refine SeqAt.RcNeAt.tuples (e := eqE xs ys) p p2 hu (eq_at fx fy r r2) _ _ _ _ ⟨.bl _, H, I, rfl, ?_⟩
  rw [size_eqs fx fy r r2]
  exact q
theorem op_eqL (hu : X.A.units < cLine) : OpR X (compareOp .Eq) (rEqL X.K fun b => b) := by
  intro pins s σ H x y v u Q I rx ry h
  obtain ⟨a, b, xs, ys, rfl, rfl, ha, hb, fx, fy, q⟩ := h
  cases rx; cases ry
  obtain ⟨its, r, p, hz⟩ := I.list ha
  obtain ⟨its2, r2, p2, hz2⟩ := I.list hb
  have q2 : ((List.range (min its.toArray.size its2.toArray.size)).all (eqE xs ys) && its.toArray.size == its2.toArray.size) = decide (xs = ys) := size_eqs fx fy r r2
  by_cases hs : its.toArray.size = its2.toArray.size
  · refine SeqAt.eq_listAt (e := eqE xs ys) p.isList p2.isList hs hu (eq_at fx fy r r2) ⟨.bl _, H, I, rfl, ?_⟩
    rw [← hs, Nat.min_self, beq_self_eq_true, Bool.and_true] at q2
    rw [q2]
    exact q
  · refine SeqAt.eq_list_lengthsAt p.isList p2.isList (by simpa using hs) hu ⟨.bl _, H, I, rfl, ?_⟩
    have z : (its.toArray.size == its2.toArray.size) = false := by simpa using hs
    rw [z, Bool.and_false] at q2
    rw [q2]
    exact q
theorem op_neL (hu : X.A.units < cLine) : OpR X (compareOp .NotEq) (rEqL X.K fun b => !b) := by
  intro pins s σ H x y v u Q I rx ry h
  obtain ⟨a, b, xs, ys, rfl, rfl, ha, hb, fx, fy, q⟩ := h
  cases rx; cases ry
  obtain ⟨its, r, p, hz⟩ := I.list ha
  obtain ⟨its2, r2, p2, hz2⟩ := I.list hb
  have q2 : ((List.range (min its.toArray.size its2.toArray.size)).all (eqE xs ys) && its.toArray.size == its2.toArray.size) = decide (xs = ys) := size_eqs fx fy r r2
  by_cases hs : its.toArray.size = its2.toArray.size
  · refine SeqAt.RcNeAt.lists (e := eqE xs ys) p.isList p2.isList hs hu (eq_at fx fy r r2) _ _ _ _ ⟨.bl _, H, I, rfl, ?_⟩
    rw [← hs, Nat.min_self, beq_self_eq_true, Bool.and_true] at q2
    rw [q2]
    exact q
  · refine SeqAt.RcNeAt.lists_lengths p.isList p2.isList (by simpa using hs) hu _ _ _ _ ⟨.bl _, H, I, rfl, ?_⟩
    have z : (its.toArray.size == its2.toArray.size) = false := by simpa using hs
    rw [z, Bool.and_false] at q2
    show Q (.bl (!false)) H
    rw [q2]
    exact q

end
end L2
namespace L2
open PySem PySem.Spec PyProof.Rows

/-! ### a comprehension's block -/
def Cx.blk (X : Cx) (N : List Str) (sc : Scope) (cl : List (Str × Addr)) (C : Addr) (s : Shared) (H : Hp) (ex : List Addr) : Cx where
  prog := X.prog
  w := X.w
  K := X.K
  mg := X.mg
  base := X.base
  A := X.A
  N := N
  s₀ := s
  H₀ := H
  env := compEnvC sc cl C X.env
  outer := X.stack
  stack := X.stack
  ex := ex
  fn := fun _ => false
  calm := X.calm
  pn := []
  xe := fun _ _ => False

/-- x: the block's own name; ys: the outer names that it reads, standing at the places js of the outer frame -/
structure BlkScope (osc : Scope) (N : List Str) (x : Str) (ys : List Str) (js : List Nat) (sc : Scope) : Prop where
  kind : sc.kind = .function
  nocell : ∀ y ∈ sc.names, y.2 ≠ .cell
  loc : ∀ y ∈ sc.names, y.2 = .local → sc.names.lookup y.1 = some .local
  var : sc.names.lookup x = some .local
  out : ∀ y ∈ sc.names, y.2 = .free → osc.names.lookup y.1 = some .cell ∨ osc.names.lookup y.1 = some .free
  free : ∀ y ∈ ys, sc.names.lookup y = some .free
  places : js.map (fun j => N[j]?) = ys.map some
  nd : (x :: ys).Nodup

theorem relabel_free {env : Env} : ∀ {names : List (Str × NameKind)} {x : Str}, names.lookup x = some .free →
    (names.map fun (n, k) => if (k == NameKind.free && env.scope.kind == .function && env.kindOf n == some .cell) then (n, NameKind.cell) else (n, k)).lookup x = some .cell ∨
    (names.map fun (n, k) => if (k == NameKind.free && env.scope.kind == .function && env.kindOf n == some .cell) then (n, NameKind.cell) else (n, k)).lookup x = some .free
  | [], _, h => by simp at h
  | (n, k) :: r, x, h => by
    have ih := @relabel_free env r x
    rw [List.map_cons]
    show List.lookup x ((if (k == NameKind.free && env.scope.kind == .function && env.kindOf n == some .cell) = true then (n, NameKind.cell) else (n, k)) :: _) = _ ∨ List.lookup x ((if (k == NameKind.free && env.scope.kind == .function && env.kindOf n == some .cell) = true then (n, NameKind.cell) else (n, k)) :: _) = _
    cases hx : x == n with
    | true =>
      simp only [List.lookup_cons, hx] at h
      cases h
      by_cases hc : (NameKind.free == NameKind.free && env.scope.kind == .function && env.kindOf n == some .cell) = true
      · rw [if_pos hc]; exact .inl (by simp [List.lookup_cons, hx])
      · rw [if_neg hc]; exact .inr (by simp [List.lookup_cons, hx])
    | false =>
      simp only [List.lookup_cons, hx] at h
      by_cases hc : (k == NameKind.free && env.scope.kind == .function && env.kindOf n == some .cell) = true
      · rw [if_pos hc]; simp only [List.lookup_cons, hx]; exact ih h
      · rw [if_neg hc]; simp only [List.lookup_cons, hx]; exact ih h
/-- a name that the block reads through a cell is one of its free names -/
theorem relabel_back {env : Env} : ∀ {names : List (Str × NameKind)} {x : Str}, (∀ y ∈ names, y.2 ≠ .cell) →
    ((names.map fun (n, k) => if (k == NameKind.free && env.scope.kind == .function && env.kindOf n == some .cell) then (n, NameKind.cell) else (n, k)).lookup x = some .cell ∨
    (names.map fun (n, k) => if (k == NameKind.free && env.scope.kind == .function && env.kindOf n == some .cell) then (n, NameKind.cell) else (n, k)).lookup x = some .free) → (x, NameKind.free) ∈ names
  | [], _, _, h => by simp at h
  | (n, k) :: r, x, hn, h => by
    have ih := @relabel_back env r x fun y hy => hn y (List.mem_cons_of_mem _ hy)
    rw [List.map_cons] at h
    have h' : List.lookup x ((if (k == NameKind.free && env.scope.kind == .function && env.kindOf n == some .cell) = true then (n, NameKind.cell) else (n, k)) :: (r.map fun (n, k) => if (k == NameKind.free && env.scope.kind == .function && env.kindOf n == some .cell) then (n, NameKind.cell) else (n, k))) = some .cell ∨ List.lookup x ((if (k == NameKind.free && env.scope.kind == .function && env.kindOf n == some .cell) = true then (n, NameKind.cell) else (n, k)) :: (r.map fun (n, k) => if (k == NameKind.free && env.scope.kind == .function && env.kindOf n == some .cell) then (n, NameKind.cell) else (n, k))) = some .free := h
    cases hx : x == n with
    | true =>
      have e : x = n := eq_of_beq hx
      by_cases hc : (k == NameKind.free && env.scope.kind == .function && env.kindOf n == some .cell) = true
      · have hk : k = .free := by
          cases k <;> first | rfl | (simp at hc)
        rw [e, hk]; exact List.mem_cons_self
      · rw [if_neg hc] at h'
        simp only [List.lookup_cons, hx] at h'
        rcases h' with h' | h'
        · have q : k = .cell := Option.some.inj h'
          exact absurd q (hn (n, k) List.mem_cons_self)
        · have q : k = .free := Option.some.inj h'
          rw [e, q]; exact List.mem_cons_self
    | false =>
      refine List.mem_cons_of_mem _ (ih ?_)
      by_cases hc : (k == NameKind.free && env.scope.kind == .function && env.kindOf n == some .cell) = true
      · rw [if_pos hc] at h'; simp only [List.lookup_cons, hx] at h'; exact h'
      · rw [if_neg hc] at h'; simp only [List.lookup_cons, hx] at h'; exact h'

/-- the cells that a block is handed -/
theorem closure_ok {sc : Scope} {env : Env} (h : ∀ y ∈ sc.names, y.2 = .free → ∃ c, env.cells.lookup y.1 = some c) :
    ∃ cl, closureFor sc env = pure cl ∧ (∀ y c, cl.lookup y = some c → env.cells.lookup y = some c) ∧ ∀ y ∈ sc.names, y.2 = .free → ∃ c, cl.lookup y.1 = some c := by
  have go : ∀ (l : List (Str × NameKind)) (acc : List (Str × Addr)), (∀ y ∈ l, y.2 = .free → ∃ c, env.cells.lookup y.1 = some c) → (∀ y c, acc.lookup y = some c → env.cells.lookup y = some c) →
      ∃ cl, (forIn l acc fun (x : Str × NameKind) (r : List (Str × Addr)) => if x.2 == .free then (do let c ← cellOf env x.1; pure (ForInStep.yield ((x.1, c) :: r)) : Sem (ForInStep (List (Str × Addr)))) else pure (ForInStep.yield r)) = pure cl ∧
        (∀ y c, cl.lookup y = some c → env.cells.lookup y = some c) ∧ (∀ y ∈ l, y.2 = .free → ∃ c, cl.lookup y.1 = some c) ∧ ∀ y, (∃ c, acc.lookup y = some c) → ∃ c, cl.lookup y = some c := by
    intro l
    induction l with
    | nil => intro acc _ ha; exact ⟨acc, rfl, ha, (fun _ z => nomatch z), fun _ z => z⟩
    | cons p l ih =>
      intro acc hl ha
      obtain ⟨n, k⟩ := p
      by_cases hk : k = .free
      · subst hk
        obtain ⟨c, hc⟩ := hl (n, .free) List.mem_cons_self rfl
        have ha' : ∀ y d, List.lookup y ((n, c) :: acc) = some d → env.cells.lookup y = some d := fun y d e => by
          rw [List.lookup_cons] at e
          cases q : y == n with
          | true => rw [q] at e; cases e; rw [eq_of_beq q]; exact hc
          | false => rw [q] at e; exact ha y d e
        obtain ⟨cl, e, h1, h2, h3⟩ := ih ((n, c) :: acc) (fun y hy => hl y (List.mem_cons_of_mem _ hy)) ha'
        have hco : cellOf env n = pure c := by unfold cellOf; rw [hc]
        refine ⟨cl, ?_, h1, fun y hy hf => ?_, fun y hy => h3 y ?_⟩
        · rw [List.forIn_cons]
          simp only [beq_self_eq_true, if_true]
          rw [hco]
          exact e
        · rcases List.mem_cons.mp hy with rfl | hy
          · exact h3 n ⟨c, by simp [List.lookup_cons]⟩
          · exact h2 y hy hf
        · obtain ⟨d, hd⟩ := hy
          rw [List.lookup_cons]
          cases y == n with
          | true => exact ⟨c, rfl⟩
          | false => exact ⟨d, hd⟩
      · obtain ⟨cl, e, h1, h2, h3⟩ := ih acc (fun y hy => hl y (List.mem_cons_of_mem _ hy)) ha
        refine ⟨cl, ?_, h1, fun y hy hf => ?_, h3⟩
        · rw [List.forIn_cons]
          have hb : (k == NameKind.free) = false := by simpa using hk
          simp only [hb, Bool.false_eq_true, if_false]
          exact e
        · rcases List.mem_cons.mp hy with rfl | hy
          · exact absurd hf hk
          · exact h2 y hy hf
  obtain ⟨cl, e, h1, h2, _⟩ := go sc.names [] h fun _ _ z => by simp at z
  refine ⟨cl, ?_, h1, h2⟩
  unfold closureFor
  show (forIn sc.names [] _ >>= fun cs => pure cs) = pure cl
  exact (congrArg (· >>= fun cs => pure cs) e).trans rfl
end L2
namespace L2
open PySem PySem.Spec PyProof.Rows

section
variable {X : Cx} {pins : List (Addr × Obj)} {σ : St} {H : Hp} {s : Shared} {x : Str} {ys : List Str} {js : List Nat} {sc : Scope} {cl : List (Str × Addr)} {fp : List Addr}
/-- the values that a block sees: its own name's (none yet), then the outer ones at js -/
def blkSt (js : List Nat) (σ : St) (v : Option V) : St := v :: js.map fun j => σ.getD j none

theorem blk_ok (I : Inv X pins σ H s) (S : BlkScope X.env.scope X.N x ys js sc) (h1 : ∀ y c, cl.lookup y = some c → X.env.cells.lookup y = some c) (h2 : ∀ y ∈ sc.names, y.2 = .free → ∃ c, cl.lookup y.1 = some c)
    (hf : ∀ b ∈ fp, FpOk X pins H b) (hl : ∀ b ∈ fp, b < s.heap.objs.size) : (X.blk (x :: ys) sc cl s.heap.objs.size s H fp).Ok where
  mod := I.ok.mod
  kind := S.kind
  glob := I.ok.glob
  blt := I.ok.blt
  above := Nat.le_refl _
  inj := fun y z c e1 e2 => I.ok.inj y z c (h1 y c e1) (h1 z c e2)
  has := fun y hy => h2 (y, .free) (relabel_back S.nocell hy) rfl
  cab := fun y c e => nomatch e
  hd := I.ok.hd
  frames := I.ok.frames
  stk := .inl rfl
  exf := fun b hb => ⟨Nat.ne_of_lt (hl b hb), fun y c e => (hf b hb).2.2.2.2.1 y c (h1 y c e)⟩
  bs := I.bs
  bsz := Nat.le_trans I.ok.bsz I.sz
  noex := fun b o e hb => by
    rcases (hf b hb).2.2.2.1 with z | z
    · exact I.ok.noex b o e z
    · exact absurd (Nat.lt_of_lt_of_le (Heap.lt_size e) (Nat.le_trans I.ok.bsz z)) (Nat.lt_irrefl _)
  exfs := fun b hb z => by
    rcases List.mem_cons.mp (I.stkSub b z) with q | q
    · exact (hf b hb).2.1 q
    · exact (hf b hb).2.2.1 q
  funs := I.stack
  frf := I.stkFree

theorem blk_start {h' : Heap} {t' : Nat} {m : Str → Option Value} (I : Inv X pins σ H s) (S : BlkScope X.env.scope X.N x ys js sc) (h1 : ∀ y c, cl.lookup y = some c → X.env.cells.lookup y = some c) (h2 : ∀ y ∈ sc.names, y.2 = .free → ∃ c, cl.lookup y.1 = some c)
    (hf : ∀ b ∈ fp, FpOk X pins H b) (hl : ∀ b ∈ fp, b < s.heap.objs.size) (hn : h'.Ns s.heap.objs.size m) (hk : ∀ b o, s.heap.get? b = some o → h'.get? b = some o) :
    Inv (X.blk (x :: ys) sc cl s.heap.objs.size s H fp) [] (blkSt js σ none) H { s with heap := h', toks := t' } where
  ok := blk_ok I S h1 h2 hf hl
  os := rfl
  bare := I.bare
  base := Un.kept hk
  loc := ⟨m, hn, fun i y v e1 e2 e3 => by
    cases i with
    | zero => cases (show some (none : Option V) = some (some v) from e2)
    | succ i =>
      have e1 : ys[i]? = some y := e1
      have e2 : (js.map fun j => σ.getD j none)[i]? = some (some v) := e2
      rw [List.getElem?_map] at e2
      cases ej : js[i]? with
      | none => rw [ej] at e2; cases e2
      | some j =>
        rw [ej] at e2
        have e2 : σ.getD j none = some v := Option.some.inj e2
        have e4 : σ[j]? = some (some v) := by
          cases q : σ[j]? with
          | none => rw [List.getD_eq_getElem?_getD, q] at e2; cases e2
          | some u => rw [List.getD_eq_getElem?_getD, q] at e2; rw [← e2]; rfl
        have e5 : X.N[j]? = some y := by
          have q := congrArg (fun l => l[i]?) S.places
          simp only [List.getElem?_map, ej, e1, Option.map_some] at q
          exact Option.some.inj q
        have e6 : (y, NameKind.free) ∈ sc.names := PySem.mem_of_lookup (S.free y (List.mem_of_getElem? e1))
        have e7 := S.out _ e6 rfl
        obtain ⟨m0, _, hl0⟩ := I.loc
        obtain ⟨u, r, lk⟩ := hl0 j y v e5 e4 (e7.elim (fun z => .inr (.inl z)) fun z => .inr (.inr z))
        refine ⟨u, r, .inr ⟨relabel_free (S.free y (List.mem_of_getElem? e1)), ?_⟩⟩
        rcases lk with ⟨k, _⟩ | ⟨_, c, ec, z⟩
        · have k : X.env.scope.names.lookup y = some .local := k
          rcases e7 with z | z <;> (rw [k] at z; cases z)
        · obtain ⟨c', ec'⟩ := h2 _ e6 rfl
          have q := h1 _ _ ec'
          have q : X.env.cells.lookup y = some c' := q
          rw [ec] at q; cases q
          obtain ⟨o, ho, hd⟩ := z
          exact ⟨c, ec', o, hk _ _ ho, hd⟩⟩
  cell := fun y c e => by
    obtain ⟨v, o, ho, hd⟩ := I.cell y c (h1 y c e)
    exact ⟨v, o, hk _ _ ho, hd⟩
  free := I.hok.fresh (Nat.le_refl _)
  freeC := fun y c e => I.freeC y c (h1 y c e)
  pin := fun p hp => absurd (show p ∈ ([] : List (Addr × Obj)) from hp) (by simp)
  hok := I.hok.kept hk
  len := by
    show (none :: js.map fun j => σ.getD j none).length = (x :: ys).length
    have q := congrArg List.length S.places
    simp only [List.length_map] at q
    simp [q]

/-- behind the block -/
theorem blk_end {H5 : Hp} {s5 : Shared} {σ5 : St} {pl : List (Addr × Obj)} (I : Inv X pins σ H s) (hf : ∀ b ∈ fp, FpOk X pins H b) (J : Inv (X.blk (x :: ys) sc cl s.heap.objs.size s H fp) pl σ5 H5 s5) :
    Inv X pins σ H5 s5 ∧ FpOk X pins H5 s.heap.objs.size ∧ ∃ oC m, s5.heap.get? s.heap.objs.size = some oC ∧ (∀ h : Heap, h.get? s.heap.objs.size = some oC → h.Ns s.heap.objs.size m) ∧ Inv X (pins ++ [(s.heap.objs.size, oC)]) σ H5 s5 := by
  have I5 : Inv X pins σ H5 s5 := I.call' (ch := fp) J.os J.base J.hok J.bare fun b hb => ⟨(hf b hb).2.2.2.1, (hf b hb).2.1, (hf b hb).2.2.2.2.1, (hf b hb).2.2.2.2.2⟩
  have F5 : FpOk X pins H5 s.heap.objs.size := I.fpOk (Nat.le_refl _) J.free
  obtain ⟨m, ⟨o, es, ep, ho, hd, r⟩, _⟩ := J.loc
  refine ⟨I5, F5, o, m, ho, fun h e => ⟨o, es, ep, e, hd, r⟩, I5.pins_of fun p hp => ?_⟩
  rcases List.mem_append.mp hp with z | z
  · exact I5.pin p (List.mem_append_right _ z)
  · have z : p = (s.heap.objs.size, o) := by simpa using z
    subst z
    exact ⟨ho, J.free, F5.2.1, F5.2.2.1, fun v q => by rw [hd] at q; cases q⟩
end

/-- the tests of a comprehension -/
def PTs (X : Cx) (ifs : List Expr) (t : TT) : Prop :=
  ∀ (pins : List (Addr × Obj)) (s : Shared) (σ : St) (H : Hp) (Q : Bool → Hp → Prop), Inv X pins σ H s → t σ H Q →
    wpAny (model X.prog X.w) X.A (forIn ifs true fun c r => if r = true then do let ok ← isTrue c X.env (eval c X.env); pure (ForInStep.yield ok) else pure (ForInStep.yield r)) (TP X pins σ Q) X.xe s
def tAll : TT := fun _ H Q => Q true H
theorem pts_nil {X : Cx} : PTs X [] tAll := fun _ _ _ H _ I h => wpAny_tests_nil ⟨H, I, h⟩
theorem pts_one {X : Cx} {c : Expr} {t : TT} (h : PT X c t) : PTs X [c] t := fun pins s σ H Q I q => wpAny_tests_one (h pins s σ H Q I q)

/-- what a comprehension's walk wants: W the invariant by turn, measure, what is gathered so far (the list at D) -/
def CompBy (js : List Nat) (tc : TT) (te : TE) (σ : St) (J : It) (H : Hp) (Fin : Addr → Hp → Prop) : Prop :=
  ∀ D, H D = none → ∃ W : Nat → Nat → List V → Hp → Prop, (∃ m, W 0 m [] (upd H D (.lst []))) ∧ ∀ i m ys H', W i m ys H' → H' D = some (.lst ys) ∧
    ((J.stop i H' ∧ Fin D H') ∨ (J.go i H' ∧ ∃ N : List V → Hp → Prop, (∀ zs H'', N zs H'' → ∃ m', m' < m ∧ W (i + 1) m' zs H'') ∧ ∀ v H2, J.yld i H' v H2 → tc (blkSt js σ (some v)) H2 fun b H3 =>
      if b = true then te (blkSt js σ (some v)) H3 fun y H4 => H4 D = some (.lst ys) ∧ ys.length < sizeLine ∧ N (ys ++ [y]) (upd H4 D (.lst (ys ++ [y]))) else N ys H3))

section
variable {X : Cx} {pins : List (Addr × Obj)} {σ : St} {H : Hp} {s : Shared} {x : Str} {ys : List Str} {js : List Nat} {sc : Scope} {cl : List (Str × Addr)} {fp : List Addr}
theorem comp_block {elt iter : Expr} {ifs : List Expr} {px pos : Pos} {tc : TT} {te : TE} {J : It} {it : Addr} {tn : Nat → Heap → Prop} {Fin : Addr → Hp → Prop} {E : Value → Shared → Prop} {RR : Value → Addr → Result → Shared → Prop}
    (hc : X.calm = true) (I : Inv X pins σ H s) (S : BlkScope X.env.scope X.N x ys js sc) (h1 : ∀ y c, cl.lookup y = some c → X.env.cells.lookup y = some c) (h2 : ∀ y ∈ sc.names, y.2 = .free → ∃ c, cl.lookup y.1 = some c)
    (T : Turn X.prog X.w X.K (.Name x px) J fp it tn) (st : tn 0 s.heap) (hf : ∀ b ∈ fp, FpOk X pins H b)
    (ht : ∀ cl C s H ex, PTs (X.blk (x :: ys) sc cl C s H ex) ifs tc) (he : ∀ cl C s H ex, PE (X.blk (x :: ys) sc cl C s H ex) elt te)
    (hw : CompBy js tc te σ J H Fin)
    (hRR : ∀ D C oC m s5 H5, Inv X pins σ H5 s5 → FpOk X pins H5 C → s5.heap.get? C = some oC → (∀ h : Heap, h.get? C = some oC → h.Ns C m) → Inv X (pins ++ [(C, oC)]) σ H5 s5 → Fin D H5 → RR (.ref D) C (.ok .next) s5) :
    wpAny (model X.prog X.w) X.A (newList []) (fun acc s₃ => wpAny (model X.prog X.w) X.A (newFunctionEnv sc X.env.globals cl [] X.env.qual none .none (some X.env)) (fun cenv s₄ =>
      codeAny (model X.prog X.w) X.A (.compStart (.ListComp elt [⟨.Name x px, iter, ifs, 0⟩] sc pos) 0 (.ref it) acc { cenv with scope := relabel sc X.env }) (RR acc cenv.locals) s₄) E s₃) E s := by
  refine wpAny_newObj_type (wpAny_newFunctionEnv S.nocell (by intro y hy; simp at hy) (fun h₁ hns₁ hsb₁ => ?_) S.kind)
  have hD : H s.heap.objs.size = none := I.hok.fresh (Nat.le_refl _)
  have I1 : Inv X pins σ (upd H s.heap.objs.size (.lst [])) { s with heap := s.heap.push { cls := .type "list", dict := none, data := .seq ([] : List Value).toArray }, toks := s.toks } :=
    I.laid (t' := s.toks) (fun b u e => Heap.get?_push_of_some _ e) (Nat.le_refl _) ⟨Nat.zero_le _, [], 0, .nil, Heap.get?_push_size _ rfl⟩
  have hfl : ∀ b ∈ fp, b < s.heap.objs.size := fun b hb => by
    obtain ⟨o, e, _⟩ := T.obj 0 _ st b hb
    exact Heap.lt_size e
  generalize hs1 : ({ s with heap := s.heap.push { cls := .type "list", dict := none, data := .seq ([] : List Value).toArray }, toks := s.toks } : Shared) = s1 at I1
  have sz1 : s1.heap.objs.size = s.heap.objs.size + 1 := by rw [← hs1]; exact Heap.size_push _ _
  have old : ∀ b o, s.heap.get? b = some o → s1.heap.get? b = some o := fun b o e => by rw [← hs1]; exact Heap.get?_push_of_some _ e
  rw [hs1] at hns₁ hsb₁
  try rw [hs1]
  have hf1 : ∀ b ∈ fp, FpOk X pins (upd H s.heap.objs.size (.lst [])) b := fun b hb => ⟨by rw [upd_ne (Nat.ne_of_lt (hfl b hb))]; exact (hf b hb).1, (hf b hb).2⟩
  have hfl1 : ∀ b ∈ fp, b < s1.heap.objs.size := fun b hb => by rw [sz1]; exact Nat.lt_succ_of_lt (hfl b hb)
  have old1 : ∀ b o, s1.heap.get? b = some o → h₁.get? b = some o := fun b o e => hsb₁.extBut b o (Nat.ne_of_lt (Heap.lt_size e)) (Heap.get?_push_of_some _ e)
  have I2 := blk_start (t' := s1.toks + ([] : List (Str × Value)).length) I1 S h1 h2 hf1 hfl1 hns₁ old1
  have st2 : tn 0 h₁ := T.keep 0 _ _ st fun b _ o e => old1 b o (old b o e)
  obtain ⟨W, ⟨m0, w0⟩, turn⟩ := hw s.heap.objs.size hD
  have fr0 : ∀ b ∈ fp, (upd H s.heap.objs.size (.lst [])) b = none := fun b hb => (hf1 b hb).1
  -- what stays true of the iterator's objects in the block
  have stat : ∀ {H' : Hp} {pl : List (Addr × Obj)}, (∀ b ∈ fp, H' b = none) → (∀ b ∈ fp, ∀ p ∈ pl, p.1 ≠ b) → ∀ b ∈ fp, FpOk (X.blk (x :: ys) sc cl s1.heap.objs.size s1 (upd H s.heap.objs.size (.lst [])) fp) pl H' b := fun hn hp b hb =>
    ⟨hn b hb, (I2.ok.exf b hb).1, I2.ok.exfs b hb, .inl hb, (I2.ok.exf b hb).2, fun p hpp => hp b hb p (by simpa [Cx.blk] using hpp)⟩
  have loop : codeAny (model X.prog X.w) X.A (.compLoop (.ListComp elt [⟨.Name x px, iter, ifs, 0⟩] sc pos) 0 (.ref it) (.ref s.heap.objs.size) (compEnvC sc cl s1.heap.objs.size X.env)) (RR (.ref s.heap.objs.size) s1.heap.objs.size)
      { s1 with heap := h₁, toks := s1.toks + ([] : List (Str × Value)).length } := by
    refine codeAny_compLoop_tests (fun n s' => ∃ i zs H', Inv (X.blk (x :: ys) sc cl s1.heap.objs.size s1 (upd H s.heap.objs.size (.lst [])) fp) [] (blkSt js σ none) H' s' ∧ tn i s'.heap ∧ (∀ b ∈ fp, H' b = none) ∧ W i n zs H') ?_ m0 ⟨0, [], _, I2, st2, fr0, w0⟩
    rintro n s3 ⟨i, zs, H3, I3, st3, fr3, w3⟩
    obtain ⟨hD3, tr⟩ := turn i n zs H3 w3
    rcases tr with ⟨stop, fin⟩ | ⟨go, N, hN, step⟩
    · refine thn (T.done (X.blk (x :: ys) sc cl s1.heap.objs.size s1 (upd H s.heap.objs.size (.lst [])) fp) rfl rfl rfl hc i [] s3 _ H3 _ I3 (stat fr3 (fun _ _ _ z => nomatch z)) st3 stop) fun r s4 ⟨hr, I4⟩ => ?_
      subst hr
      obtain ⟨I5, F5, oC, m, ho, hns, I6⟩ := blk_end I1 hf1 I4
      exact hRR _ _ oC m _ _ I5 F5 ho hns I6 fin
    · refine thn (T.item (X.blk (x :: ys) sc cl s1.heap.objs.size s1 (upd H s.heap.objs.size (.lst [])) fp) rfl rfl rfl hc i [] s3 _ H3 _ I3 (stat fr3 (fun _ _ _ z => nomatch z)) st3 go) fun r s4 ⟨u, hr, h4⟩ => ?_
      subst hr
      show wpAny _ _ (letOwnedTupleGo (.Name x px) (.ref it) u >>= fun _ => assign (.Name x px) (compEnvC sc cl s1.heap.objs.size X.env) u) _ _ s4
      refine wpAny_bind (thn h4 fun _ s5 ⟨v, H5, I5, r5, y5, st5, fr5⟩ => ?_)
      have I5' := I5.pinned (stat fr5 (fun _ _ _ z => nomatch z)) (T.obj _ _ st5)
      refine wpAny_mono (pg_name (X := X.blk (x :: ys) sc cl s1.heap.objs.size s1 (upd H s.heap.objs.size (.lst [])) fp) (i := 0) (pos := px) S.nd rfl (.inl (lookup_relabel_local S.var)) (.inr (lookup_relabel_local S.var)) _ s5 _ H5 v u (fun σ' H' => σ' = blkSt js σ (some v) ∧ H' = H5) I5' r5 ⟨rfl, rfl⟩)
        (fun _ s6 ⟨σ6, H6, I6, e6, e7⟩ => ?_) (fun _ _ z => nomatch z)
      subst e6; subst e7
      refine wpAny_mono (ht _ _ _ _ _ _ s6 _ _ _ I6 (step v H6 y5)) (fun b s7 ⟨H7, I7, q7⟩ => ?_) (fun _ _ z => nomatch z)
      -- the turn's end
      have again : ∀ {σ8 : St} {H8 : Hp} {s8 : Shared} {zs' : List V}, Inv (X.blk (x :: ys) sc cl s1.heap.objs.size s1 (upd H s.heap.objs.size (.lst [])) fp) ([] ++ pinsAt fp s5.heap) (blkSt js σ (some v)) H8 s8 → N zs' H8 →
          ∃ m, m < n ∧ ∃ i zs H', Inv (X.blk (x :: ys) sc cl s1.heap.objs.size s1 (upd H s.heap.objs.size (.lst [])) fp) [] (blkSt js σ none) H' s8 ∧ tn i s8.heap ∧ (∀ b ∈ fp, H' b = none) ∧ W i m zs H' := by
        intro σ8 H8 s8 zs' I8 n8
        obtain ⟨m', hm, w8⟩ := hN _ _ n8
        refine ⟨m', hm, i + 1, zs', H8, (Inv.unpinned I8).weak rfl (fun k w e => ?_), T.keep _ _ _ st5 fun b hb o e => (I8.pin (b, o) (List.mem_append_right _ (List.mem_append_right _ (mem_pinsAt hb e)))).1, fun b hb => ?_, w8⟩
        · cases k with
          | zero => cases (show some (none : Option V) = some (some w) from e)
          | succ k => exact e
        · obtain ⟨o, e, d⟩ := T.obj _ _ st5 b hb
          exact (I8.pin (b, o) (List.mem_append_right _ (List.mem_append_right _ (mem_pinsAt hb e)))).2.1
      cases b with
      | false =>
        rw [if_neg Bool.false_ne_true] at q7
        rw [if_neg Bool.false_ne_true]
        exact again (σ8 := []) I7 q7
      | true =>
        rw [if_pos rfl] at q7
        rw [if_pos rfl]
        refine wpAny_mono (he _ _ _ _ _ _ s7 _ _ _ I7 q7) (fun u8 s8 ⟨y8, H8, I8, r8, hD8, hz8, q8⟩ => ?_) (fun _ _ z => nomatch z)
        refine wpAny_mono (mt_append (X := X.blk (x :: ys) sc cl s1.heap.objs.size s1 (upd H s.heap.objs.size (.lst [])) fp) _ s8 _ H8 (.ref s.heap.objs.size) [y8] (.ref s.heap.objs.size) [u8] (fun _ H9 => H9 = upd H8 s.heap.objs.size (.lst (zs ++ [y8]))) I8 rfl (.cons r8 .nil)
          ⟨_, zs, y8, rfl, rfl, hD8, hz8, rfl⟩) (fun _ s9 ⟨_, H9, I9, _, e9⟩ => ?_) (fun _ _ z => nomatch z)
        subst e9
        exact again (σ8 := []) I9 q8
  exact codeAny_compStart_list loop (T.self X.A 0 _ _ _ st2 loop)
end

/-- [elt for x in iter if ..] -/
def tComp (wi : TI) (js : List Nat) (tc : TT) (te : TE) : TE := fun σ H Q => wi σ H fun J H1 => CompBy js tc te σ J H1 fun D H2 => Q (.ref D) H2
/-- y = [elt for x in iter if ..], the stores exchanged -/
def tSetC (i : Nat) (wi : TI) (js : List Nat) (tc : TT) (te : TE) : TS := fun D σ H => wi σ H fun J H1 => CompBy js tc te σ J H1 fun a H2 => D.nx (σ.set i (some (.ref a))) H2
section
variable {X : Cx} {elt iter : Expr} {x : Str} {ys : List Str} {js : List Nat} {sc : Scope} {ifs : List Expr} {px pos : Pos} {wi : TI} {tc : TT} {te : TE}
theorem blk_cells {pins : List (Addr × Obj)} {σ : St} {H : Hp} {s : Shared} (I : Inv X pins σ H s) (S : BlkScope X.env.scope X.N x ys js sc) : ∀ y ∈ sc.names, y.2 = .free → ∃ c, X.env.cells.lookup y.1 = some c := fun y hy hf => I.ok.has y.1 (S.out y hy hf)
theorem pe_comp (S : BlkScope X.env.scope X.N x ys js sc) (hc : X.calm = true) (hi : PI X (.Name x px) iter wi) (ht : ∀ cl C s H ex, PTs (X.blk (x :: ys) sc cl C s H ex) ifs tc) (he : ∀ cl C s H ex, PE (X.blk (x :: ys) sc cl C s H ex) elt te)
    (hs : ∀ v, foldedSetIterable iter X.env v = pure v := by intro _; rfl) : PE X (.ListComp elt [⟨.Name x px, iter, ifs, 0⟩] sc pos) (tComp wi js tc te) := by
  intro pins s σ H Q I h
  obtain ⟨cl, ecl, h1, h2⟩ := closure_ok (blk_cells I S)
  rw [eval_ListComp]
  refine wpAny_comprehension_free (use := none) rfl hs ecl S.kind S.loc (thn (hi pins s σ H _ I h) fun v s1 hv => thn hv fun itv s2 h2' => ?_)
  obtain ⟨it, fp, tn, J, H2, e, I2, T, st2, f2, q2⟩ := h2'
  subst e
  refine comp_block (RR := fun acc C => compPost (model X.prog X.w) X.A X.xe none (EP X pins σ Q) acc C) hc I2 S h1 h2 T st2 f2 ht he q2 ?_
  intro D C oC m s5 H5 I5 F5 ho hns I6 fin
  refine ⟨m, hns _ ho, fun h' hs' => ⟨.ref D, H5, ?_, rfl, fin⟩⟩
  exact I5.turned (t' := s5.toks) (fun b o hb e => hs'.extBut b o hb e) F5.1 F5.2.1 F5.2.2.2.1 F5.2.2.2.2.1 F5.2.2.2.2.2
theorem ps_setC {i : Nat} {y : Str} {py spos : Pos} (hN : X.N.Nodup) (hiN : X.N[i]? = some y) (hy : X.env.scope.names.lookup y = some .local) (S : BlkScope X.env.scope X.N x ys js sc) (hc : X.calm = true) (hi : PI X (.Name x px) iter wi)
    (ht : ∀ cl C s H ex, PTs (X.blk (x :: ys) sc cl C s H ex) ifs tc) (he : ∀ cl C s H ex, PE (X.blk (x :: ys) sc cl C s H ex) elt te)
    (hsw : swapsWith (.ListComp elt [⟨.Name x px, iter, ifs, 0⟩] sc pos) (some (.Name y py)) spos.line X.env = pure true := by rfl)
    (hs : ∀ v, foldedSetIterable iter X.env v = pure v := by intro _; rfl) : PS X (.Assign [.Name y py] (.ListComp elt [⟨.Name x px, iter, ifs, 0⟩] sc pos) spos) (tSetC i wi js tc te) := by
  intro pins s σ H D I h
  obtain ⟨cl, ecl, h1, h2⟩ := closure_ok (blk_cells I S)
  rw [exec_Assign_Name_used _ _ _ _ hsw]
  refine wpAny_bind (wpAny_standAt (wpAny_bind ?_))
  show wpAny _ X.A (do let _ ← comprehension (.ListComp elt [⟨.Name x px, iter, ifs, 0⟩] sc pos) sc X.env _ (newList []) false (eval iter X.env) (some (assign (.Name y py) X.env))) _ _ s
  refine wpAny_bind (wpAny_mono (wpAny_comprehension_free (use := some (assign (.Name y py) X.env)) (Q := fun _ s' => SP X pins D .next s') rfl hs ecl S.kind S.loc (thn (hi pins s σ H _ I h) fun v s1 hv => thn hv fun itv s2 h2' => ?_))
    (fun _ s' hq => wpAny_pure (wpAny_pure hq)) fun _ _ e => e)
  obtain ⟨it, fp, tn, J, H2, e, I2, T, st2, f2, q2⟩ := h2'
  subst e
  refine comp_block (RR := fun acc C => compPost (model X.prog X.w) X.A X.xe (some (assign (.Name y py) X.env)) (fun _ s' => SP X pins D .next s') acc C) hc I2 S h1 h2 T st2 f2 ht he q2 ?_
  intro a C oC m s5 H5 I5 F5 ho hns I6 fin
  show wpAny _ X.A (assign (.Name y py) X.env (.ref a)) _ _ s5
  refine wpAny_mono (pg_name (X := X) (i := i) (pos := py) hN hiN (.inl hy) (.inr hy) _ s5 σ H5 (.ref a) (.ref a) (fun σ' H' => σ' = σ.set i (some (.ref a)) ∧ H' = H5) I6 rfl ⟨rfl, rfl⟩) (fun _ s6 ⟨σ6, H6, I7, e6, e7⟩ => ?_) fun _ _ e => e
  subst e6; subst e7
  have hC6 : s6.heap.get? C = some oC := (I7.pin (C, oC) (List.mem_append_right _ (List.mem_append_right _ (by simp)))).1
  refine ⟨m, hns _ hC6, fun h' hs' => ⟨_, H6, ?_, fin⟩⟩
  exact (Inv.unpinned I7).turned (t' := s6.toks) (fun b o hb e => hs'.extBut b o hb e) F5.1 F5.2.1 F5.2.2.2.1 F5.2.2.2.2.1 F5.2.2.2.2.2
end

/-! ### the forms one uses: over a range, a list, a tuple that stay -/
section
variable {js : List Nat} {tc : TT} {te : TE} {σ : St} {H : Hp} {Fin : Addr → Hp → Prop}
theorem comp_range {lo : Int} {n : Nat} (Pv : Addr → Nat → List V → Hp → Prop) (h0 : ∀ D, H D = none → Pv D 0 [] (upd H D (.lst []))) (hD : ∀ D i ys H', H D = none → Pv D i ys H' → H' D = some (.lst ys))
    (hs : ∀ D i ys H', H D = none → i < n → Pv D i ys H' → tc (blkSt js σ (some (.int (lo + i)))) H' fun b H3 => if b = true then te (blkSt js σ (some (.int (lo + i)))) H3 fun y H4 => H4 D = some (.lst ys) ∧ ys.length < sizeLine ∧ Pv D (i + 1) (ys ++ [y]) (upd H4 D (.lst (ys ++ [y]))) else Pv D (i + 1) ys H3)
    (hd : ∀ D ys H', H D = none → Pv D n ys H' → Fin D H') : CompBy js tc te σ (Itr lo n) H Fin := by
  intro D hn
  refine ⟨fun i m ys H' => m = n - i ∧ i ≤ n ∧ Pv D i ys H', ⟨n, by simp, Nat.zero_le _, h0 D hn⟩, ?_⟩
  rintro i m ys H' ⟨rfl, hi, p⟩
  refine ⟨hD D i ys H' hn p, ?_⟩
  by_cases hlt : i < n
  · refine .inr ⟨hlt, Pv D (i + 1), fun zs H'' p' => ⟨n - (i + 1), by omega, rfl, hlt, p'⟩, fun v H2 y => ?_⟩
    obtain ⟨e, y⟩ := y
    subst e; subst y
    exact hs D i ys _ hn hlt p
  · have e : i = n := by omega
    subst e
    exact .inl ⟨Nat.le_refl _, hd D ys H' hn p⟩
theorem comp_seq {J : It} {xs : List V} (Pv : Addr → Nat → List V → Hp → Prop) (h0 : ∀ D, H D = none → Pv D 0 [] (upd H D (.lst []))) (hD : ∀ D i ys H', H D = none → Pv D i ys H' → H' D = some (.lst ys))
    (hg : ∀ D i ys H' x, H D = none → xs[i]? = some x → Pv D i ys H' → J.go i H' ∧ ∀ v H2, J.yld i H' v H2 → v = x ∧ H2 = H')
    (hst : ∀ D ys H', H D = none → Pv D xs.length ys H' → J.stop xs.length H')
    (hs : ∀ D i ys H' x, H D = none → xs[i]? = some x → Pv D i ys H' → tc (blkSt js σ (some x)) H' fun b H3 => if b = true then te (blkSt js σ (some x)) H3 fun y H4 => H4 D = some (.lst ys) ∧ ys.length < sizeLine ∧ Pv D (i + 1) (ys ++ [y]) (upd H4 D (.lst (ys ++ [y]))) else Pv D (i + 1) ys H3)
    (hd : ∀ D ys H', H D = none → Pv D xs.length ys H' → Fin D H') : CompBy js tc te σ J H Fin := by
  intro D hn
  refine ⟨fun i m ys H' => m = xs.length - i ∧ i ≤ xs.length ∧ Pv D i ys H', ⟨xs.length, by simp, Nat.zero_le _, h0 D hn⟩, ?_⟩
  rintro i m ys H' ⟨rfl, hi, p⟩
  refine ⟨hD D i ys H' hn p, ?_⟩
  by_cases hlt : i < xs.length
  · have hx : xs[i]? = some xs[i] := by simp [hlt]
    obtain ⟨g1, g2⟩ := hg D i ys H' _ hn hx p
    refine .inr ⟨g1, Pv D (i + 1), fun zs H'' p' => ⟨xs.length - (i + 1), by omega, rfl, hlt, p'⟩, fun v H2 y => ?_⟩
    obtain ⟨e, y'⟩ := g2 v H2 y
    subst e; subst y'
    exact hs D i ys _ _ hn hx p
  · have e : i = xs.length := by omega
    subst e
    exact .inl ⟨hst D ys H' hn p, hd D ys H' hn p⟩
end
end L2
namespace L2
open PySem PySem.Spec PyProof.Rows

/-! ### what a growing heap keeps -/
def TupKeep (H H' : Hp) : Prop := ∀ b xs, H b = some (.tup xs) → H' b = some (.tup xs)
theorem Same.tk {H H' : Hp} (s : Same H H') : TupKeep H H' := fun b xs e => s b _ e
theorem TupKeep.trans {H H1 H2 : Hp} (a : TupKeep H H1) (b : TupKeep H1 H2) : TupKeep H H2 := fun c xs e => b c xs (a c xs e)
theorem TupKeep.refl (H : Hp) : TupKeep H H := fun _ _ e => e
theorem TupKeep.upd {H : Hp} {D : Addr} {o : HO} (h : ∀ xs, H D ≠ some (.tup xs)) : TupKeep H (upd H D o) := fun b xs e => by
  rw [upd_ne (by rintro rfl; exact h xs e)]; exact e
theorem Same.upd {H H' : Hp} {D : Addr} {o : HO} (s : Same H H') (h : H D = none) : Same H (upd H' D o) := fun b u e => by
  rw [upd_ne (by rintro rfl; rw [h] at e; cases e)]; exact s b u e
theorem Same.new {H : Hp} {D : Addr} {o : HO} (h : H D = none) : Same H (L2.upd H D o) := Same.upd (Same.refl H) h
theorem Same.seqT {K : PySem.W.Frag} {H H' : Hp} {a : Addr} {xs : List V} (e : Same H H') (h : SqT K H a xs) : SqT K H' a xs := by
  rcases h with (h | ⟨o, h⟩) | h
  · exact .inl (.inl (e _ _ h))
  · exact .inl (.inr ⟨o, e _ _ h⟩)
  · exact .inr h

/-! ### lists of values beside lists of what they mean -/
theorem prd_append {α β : Type} {R : α → β → Prop} : ∀ {a a' : List α} {b b' : List β}, Paired R a b → Paired R a' b' → Paired R (a ++ a') (b ++ b')
  | _, _, _, _, .nil, q => q
  | _, _, _, _, .cons r t, q => .cons r (prd_append t q)
theorem prd_len {α β : Type} {R : α → β → Prop} : ∀ {a : List α} {b : List β}, Paired R a b → a.length = b.length
  | _, _, .nil => rfl
  | _, _, .cons _ t => congrArg (· + 1) (prd_len t)
theorem prd_get {α β : Type} {R : α → β → Prop} : ∀ {a : List α} {b : List β} {i : Nat} {y : β}, Paired R a b → b[i]? = some y → ∃ x, a[i]? = some x ∧ R x y
  | _, _, _, _, .nil, e => by simp at e
  | _, _, 0, _, .cons r _, e => by simp at e; subst e; exact ⟨_, rfl, r⟩
  | _, _, i + 1, y, .cons _ t, e => by
    obtain ⟨x, h1, h2⟩ := prd_get (i := i) (y := y) t (by simpa using e)
    exact ⟨x, by simpa using h1, h2⟩
theorem prd_imp {α β : Type} {R S : α → β → Prop} (f : ∀ x y, R x y → S x y) : ∀ {a : List α} {b : List β}, Paired R a b → Paired S a b
  | _, _, .nil => .nil
  | _, _, .cons r t => .cons (f _ _ r) (prd_imp f t)
theorem prd_map {α β : Type} {g : β → α} : ∀ {a : List α} {b : List β}, Paired (fun x y => x = g y) a b → a = b.map g
  | _, _, .nil => rfl
  | _, _, .cons r t => by rw [r, prd_map t]; rfl
theorem prd_of_map {α β : Type} {R : α → β → Prop} (g : β → α) (h : ∀ y, R (g y) y) : ∀ (b : List β), Paired R (b.map g) b
  | [] => .nil
  | y :: b => .cons (h y) (prd_of_map g h b)

/-! ### a comprehension whose tests and elements only make new things -/
theorem comp_grow {α β : Type} {js : List Nat} {tc : TT} {te : TE} {σ : St} {H : Hp} {Fin : Addr → Hp → Prop} {J : It} (bs : List β) (val : β → V) (p : β → Bool) (f : β → α) (R : Hp → V → α → Prop)
    (mono : ∀ H1 H2 v c, TupKeep H1 H2 → R H1 v c → R H2 v c)
    (hJ : ∀ H', Same H H' → (∀ i b, bs[i]? = some b → J.go i H' ∧ ∀ v H2, J.yld i H' v H2 → v = val b ∧ H2 = H') ∧ J.stop bs.length H')
    (ht : ∀ b H', b ∈ bs → Same H H' → ∀ Q2 : Bool → Hp → Prop, (∀ H3, Same H' H3 → Q2 (p b) H3) → tc (blkSt js σ (some (val b))) H' Q2)
    (he : ∀ b H', b ∈ bs → p b = true → Same H H' → ∀ Q2 : VK, (∀ y H4, Same H' H4 → R H4 y (f b) → Q2 y H4) → te (blkSt js σ (some (val b))) H' Q2)
    (hn : bs.length ≤ sizeLine)
    (hd : ∀ D ws H', H D = none → Same H H' → H' D = some (.lst ws) → Paired (R H') ws ((bs.filter p).map f) → Fin D H') : CompBy js tc te σ J H Fin := by
  intro D hD
  have tkeep : ∀ {H4 : Hp} {ys zs : List V}, H4 D = some (.lst ys) → TupKeep H4 (upd H4 D (.lst zs)) := fun e => TupKeep.upd fun xs z => by rw [e] at z; cases z
  let Pv : Nat → List V → Hp → Prop := fun i ys H' => Same H H' ∧ H' D = some (.lst ys) ∧ Paired (R H') ys (((bs.take i).filter p).map f)
  refine ⟨fun i m ys H' => m = bs.length - i ∧ i ≤ bs.length ∧ Pv i ys H', ⟨bs.length, by simp, Nat.zero_le _, Same.new hD, upd_same, by simpa using Paired.nil⟩, ?_⟩
  rintro i m ys H' ⟨rfl, hi, sm, hL, pr⟩
  refine ⟨hL, ?_⟩
  by_cases hlt : i < bs.length
  · have hx : bs[i]? = some bs[i] := by simp [hlt]
    have hmem : bs[i] ∈ bs := List.getElem_mem hlt
    have htake : bs.take (i + 1) = bs.take i ++ [bs[i]] := by rw [List.take_add_one, hx]; rfl
    obtain ⟨g1, g2⟩ := (hJ H' sm).1 i _ hx
    have hyl : ys.length ≤ i := by
      have e := prd_len pr
      rw [List.length_map] at e
      have e2 := List.length_filter_le p (bs.take i)
      rw [List.length_take] at e2
      omega
    refine .inr ⟨g1, Pv (i + 1), fun zs H'' p' => ⟨bs.length - (i + 1), by omega, rfl, hlt, p'⟩, fun v H2 y => ?_⟩
    obtain ⟨e, y'⟩ := g2 v H2 y
    subst e; subst y'
    refine ht _ _ hmem sm _ fun H3 s3 => ?_
    have sm3 : Same H H3 := sm.trans s3
    have pr3 : Paired (R H3) ys (((bs.take i).filter p).map f) := prd_imp (fun x y r => mono _ _ _ _ s3.tk r) pr
    refine if2 (fun hp => ?_) (fun hp => ?_)
    · refine he _ _ hmem hp sm3 _ fun y4 H4 s4 r4 => ?_
      have hL4 : H4 D = some (.lst ys) := s4 _ _ (s3 _ _ hL)
      refine ⟨hL4, by omega, (sm3.trans s4).upd hD, upd_same, ?_⟩
      rw [htake, List.filter_append, List.map_append]
      have e1 : List.filter p [bs[i]] = [bs[i]] := by simp [hp]
      rw [e1]
      refine prd_append (prd_imp (fun x y r => mono _ _ _ _ (s4.tk.trans (tkeep hL4)) r) pr3) (.cons (mono _ _ _ _ (tkeep hL4) r4) .nil)
    · refine ⟨sm3, s3 _ _ hL, ?_⟩
      rw [htake, List.filter_append, List.map_append]
      have e1 : List.filter p [bs[i]] = [] := by simp [hp]
      rw [e1]
      simpa using pr3
  · have e : i = bs.length := by omega
    subst e
    refine .inl ⟨(hJ H' sm).2, hd D ys H' hD sm hL ?_⟩
    rwa [List.take_length] at pr
theorem it_range (H : Hp) (lo : Int) (n : Nat) : ∀ H', Same H H' → (∀ i b, ((List.range n).map fun (i : Nat) => lo + (i : Int))[i]? = some b → (Itr lo n).go i H' ∧ ∀ v H2, (Itr lo n).yld i H' v H2 → v = V.int b ∧ H2 = H') ∧ (Itr lo n).stop ((List.range n).map fun (i : Nat) => lo + (i : Int)).length H' := by
  intro H' _
  refine ⟨fun i b e => ?_, by show n ≤ _; simp⟩
  rw [List.getElem?_map] at e
  by_cases hi : i < n
  · rw [List.getElem?_range hi] at e
    have e : lo + (i : Int) = b := Option.some.inj e
    refine ⟨hi, fun v H2 y => ⟨?_, y.1⟩⟩
    rw [y.2, e]
  · rw [List.getElem?_eq_none (by simpa using hi)] at e
    cases e
theorem it_tup {K : PySem.W.Frag} {H : Hp} {a : Addr} {β : Type} (bs : List β) (val : β → V) (h : SqT K H a (bs.map val)) : ∀ H', Same H H' → (∀ i b, bs[i]? = some b → (Itt K a).go i H' ∧ ∀ v H2, (Itt K a).yld i H' v H2 → v = val b ∧ H2 = H') ∧ (Itt K a).stop bs.length H' := by
  intro H' sm
  have h' := sm.seqT h
  have e1 : ∀ i b, bs[i]? = some b → (bs.map val)[i]? = some (val b) := fun i b e => by rw [List.getElem?_map, e]; rfl
  refine ⟨fun i b e => ⟨⟨_, _, h', e1 i b e⟩, fun v H2 y => ⟨?_, y.1⟩⟩, ⟨_, h', by simp⟩⟩
  have q := y.2 _ h'
  rw [e1 i b e] at q
  exact (Option.some.inj q).symm
theorem it_list {K : PySem.W.Frag} {H : Hp} {a : Addr} {β : Type} (bs : List β) (val : β → V) (h : SqL K H a (bs.map val)) : ∀ H', Same H H' → (∀ i b, bs[i]? = some b → (Itl K a).go i H' ∧ ∀ v H2, (Itl K a).yld i H' v H2 → v = val b ∧ H2 = H') ∧ (Itl K a).stop bs.length H' := by
  intro H' sm
  have h' := sm.seq h
  have e1 : ∀ i b, bs[i]? = some b → (bs.map val)[i]? = some (val b) := fun i b e => by rw [List.getElem?_map, e]; rfl
  refine ⟨fun i b e => ⟨⟨_, _, h', e1 i b e⟩, fun v H2 y => ⟨?_, y.1⟩⟩, ⟨_, h', by simp⟩⟩
  have q := y.2 _ h'
  rw [e1 i b e] at q
  exact (Option.some.inj q).symm
end L2
namespace STab
open PySem PySem.SetTable

/-- the places rise -/
def Srt (xs : Array Nat) : Prop := ∀ i j (hi : i < j) (hj : j < xs.size), xs[i]'(Nat.lt_trans hi hj) < xs[j]
theorem Srt.nil : Srt #[] := fun _ _ _ hj => absurd hj (by simp)
theorem below_go {xs : Array Nat} (j : Nat) : ∀ (fuel lo hi : Nat), hi - lo ≤ fuel → lo ≤ hi → hi ≤ xs.size → Srt xs →
    (∀ i (h : i < xs.size), i < lo → xs[i] < j) → (∀ i (h : i < xs.size), hi ≤ i → j ≤ xs[i]) →
    lo ≤ below.go xs j fuel lo hi ∧ below.go xs j fuel lo hi ≤ hi ∧ (∀ i (h : i < xs.size), i < below.go xs j fuel lo hi → xs[i] < j) ∧ (∀ i (h : i < xs.size), below.go xs j fuel lo hi ≤ i → j ≤ xs[i])
  | 0, lo, hi, hf, hl, hs, _, h1, h2 => by
    have e : lo = hi := by omega
    subst e
    exact ⟨Nat.le_refl _, Nat.le_refl _, h1, h2⟩
  | fuel + 1, lo, hi, hf, hl, hs, srt, h1, h2 => by
    unfold below.go
    by_cases hlt : lo < hi
    · rw [if_pos hlt]
      have hm : (lo + hi) / 2 < xs.size := by omega
      have hd : xs.getD ((lo + hi) / 2) j = xs[(lo + hi) / 2] := by simp [Array.getD, hm]
      simp only [hd]
      by_cases hx : xs[(lo + hi) / 2] < j
      · rw [if_pos hx]
        have r := below_go j fuel ((lo + hi) / 2 + 1) hi (by omega) (by omega) hs srt (fun i h hi' => by
          by_cases e : i = (lo + hi) / 2
          · subst e; exact hx
          · exact Nat.lt_trans (srt i ((lo + hi) / 2) (by omega) hm) hx) h2
        exact ⟨by omega, r.2.1, r.2.2.1, r.2.2.2⟩
      · rw [if_neg hx]
        have r := below_go j fuel lo ((lo + hi) / 2) (by omega) (by omega) (by omega) srt h1 (fun i h hi' => by
          by_cases e : i = (lo + hi) / 2
          · subst e; exact Nat.le_of_not_lt hx
          · exact Nat.le_trans (Nat.le_of_not_lt hx) (Nat.le_of_lt (srt ((lo + hi) / 2) i (by omega) h)))
        exact ⟨r.1, by omega, r.2.2.1, r.2.2.2⟩
    · rw [if_neg hlt]
      have e : lo = hi := by omega
      subst e
      exact ⟨Nat.le_refl _, Nat.le_refl _, h1, h2⟩
theorem below_spec {xs : Array Nat} (srt : Srt xs) (j : Nat) : below xs j ≤ xs.size ∧ (∀ i (h : i < xs.size), i < below xs j → xs[i] < j) ∧ (∀ i (h : i < xs.size), below xs j ≤ i → j ≤ xs[i]) := by
  have r := below_go j xs.size 0 xs.size (by omega) (Nat.zero_le _) (Nat.le_refl _) srt (fun i h hi => absurd hi (Nat.not_lt_zero _)) (fun i h hi => absurd h (Nat.not_lt.mpr hi))
  exact ⟨r.2.1, r.2.2.1, r.2.2.2⟩
/-- the place that follows the i-th one -/
theorem below_next {xs : Array Nat} (srt : Srt xs) {i : Nat} (h : i < xs.size) : below xs (xs[i] + 1) = i + 1 := by
  obtain ⟨a, b, c⟩ := below_spec srt (xs[i] + 1)
  apply Nat.le_antisymm
  · apply Nat.le_of_not_lt
    intro q
    have hz : i + 1 < xs.size := Nat.lt_of_lt_of_le q a
    have := b (i + 1) hz q
    have := srt i (i + 1) (Nat.lt_succ_self _) hz
    omega
  · apply Nat.le_of_not_lt
    intro q
    have := c i h (by omega)
    omega
theorem below_zero {xs : Array Nat} (srt : Srt xs) : below xs 0 = 0 := by
  obtain ⟨a, b, c⟩ := below_spec srt 0
  apply Nat.eq_zero_of_not_pos
  intro q
  have := b 0 (by omega) q
  omega
/-- a place that is none of them -/
theorem not_at {xs : Array Nat} (srt : Srt xs) {j : Nat} (h : xs[below xs j]? ≠ some j) : ∀ i (hi : i < xs.size), xs[i] ≠ j := by
  intro i hi e
  obtain ⟨a, b, c⟩ := below_spec srt j
  have e1 : below xs j = i := by
    apply Nat.le_antisymm
    · apply Nat.le_of_not_lt
      intro q
      have := b i hi q
      omega
    · apply Nat.le_of_not_lt
      intro q
      have z : below xs j < xs.size := by omega
      have := c (below xs j) z (Nat.le_refl _)
      have := srt (below xs j) i q hi
      omega
  apply h
  rw [e1, ← e]
  simp [hi]
theorem insertAt_size {α : Type} (xs : Array α) (p : Nat) (x : α) (h : p ≤ xs.size) : (insertAt xs p x).size = xs.size + 1 := by
  unfold insertAt
  simp only [Array.size_append, Array.size_push, Array.size_extract]
  omega
theorem insertAt_get {α : Type} (xs : Array α) (p : Nat) (x : α) (h : p ≤ xs.size) (i : Nat) (hi : i < (insertAt xs p x).size) :
    (insertAt xs p x)[i] = if h1 : i < p then xs[i]'(by omega) else if h2 : i = p then x else xs[i - 1]'(by rw [insertAt_size xs p x h] at hi; omega) := by
  have hs := insertAt_size xs p x h
  unfold insertAt at hi ⊢
  rw [Array.getElem_append]
  have e0 : ((xs.extract 0 p).push x).size = p + 1 := by
    simp only [Array.size_push, Array.size_extract]; omega
  by_cases h1 : i < p
  · rw [dif_pos h1, dif_pos (by rw [e0]; omega)]
    rw [Array.getElem_push, dif_pos (by simp only [Array.size_extract]; omega)]
    simp
  · rw [dif_neg h1]
    by_cases h2 : i = p
    · subst h2
      rw [dif_pos rfl, dif_pos (by rw [e0]; omega)]
      rw [Array.getElem_push, dif_neg (by simp only [Array.size_extract]; omega)]
    · rw [dif_neg h2, dif_neg (by rw [e0]; omega)]
      simp only [Array.getElem_extract]
      congr 1
      rw [e0]
      omega
theorem Srt.insert {xs : Array Nat} (srt : Srt xs) {j : Nat} (h : ∀ i (hi : i < xs.size), xs[i] ≠ j) : Srt (insertAt xs (below xs j) j) := by
  obtain ⟨a, b, c⟩ := below_spec srt j
  intro i k hik hk
  have hs := insertAt_size xs (below xs j) j a
  rw [insertAt_get xs _ j a i, insertAt_get xs _ j a k]
  rw [hs] at hk
  by_cases h1 : i < below xs j
  · rw [dif_pos h1]
    by_cases h2 : k < below xs j
    · rw [dif_pos h2]; exact srt i k hik (by omega)
    · rw [dif_neg h2]
      by_cases h3 : k = below xs j
      · rw [dif_pos h3]; exact b i (by omega) h1
      · rw [dif_neg h3]; exact srt i (k - 1) (by omega) (by omega)
  · have h2 : ¬ k < below xs j := by omega
    rw [dif_neg h1, dif_neg h2]
    have h3 : ¬ k = below xs j := by omega
    rw [dif_neg h3]
    by_cases h4 : i = below xs j
    · rw [dif_pos h4]
      have q := c (k - 1) (by omega) (by omega)
      have q2 := h (k - 1) (by omega)
      omega
    · rw [dif_neg h4]; exact srt (i - 1) (k - 1) (by omega) (by omega)
theorem Srt.range (n : Nat) : Srt (Array.range n) := fun i j hi hj => by simpa using hi
/-- what every table of the call's own sets has -/
structure Tb (t : SetTable) (led : Bool) : Prop where
  dm : t.dummies = #[]
  srt : Srt t.place
  ld : t.led = led
theorem Tb.fresh (a b : Nat) (led : Bool) : Tb (.fresh a b led) led := ⟨rfl, Srt.nil, rfl⟩
theorem Tb.standIn {t : SetTable} {led : Bool} (h : Tb t led) (n : Nat) : Tb (t.standIn n) led := ⟨rfl, Srt.range n, h.ld⟩
theorem Tb.plain {t : SetTable} {led b : Bool} (h : Tb t led) : Tb { t with plain := b } led := ⟨h.dm, h.srt, h.ld⟩
theorem has_nil (j : Nat) : has #[] j = false := by
  unfold has
  simp
theorem slot_empty {t : SetTable} {led : Bool} (h : Tb t led) {j : Nat} (e : t.slot j = .empty) : ∀ i (hi : i < t.place.size), t.place[i] ≠ j := by
  refine not_at h.srt ?_
  intro q
  unfold SetTable.slot at e
  simp only [q, beq_self_eq_true, if_true] at e
  cases e
theorem slot_nodummy {t : SetTable} {led : Bool} (h : Tb t led) (j : Nat) : t.slot j ≠ .dummy := by
  intro e
  unfold SetTable.slot at e
  simp only [h.dm, has_nil] at e
  split at e
  · cases e
  · simp at e
theorem probe_free {t : SetTable} {led : Bool} (T : Tb t led) (f : Nat → Int) (h : Int) : ∀ (fuel : Nat) (p : Probe) (j : Nat) (d : Option Nat), p.dummy = none → probe.go t f h fuel p = some (.empty j d) → t.slot j = .empty ∧ d = none
  | 0, p, j, d, _, e => by unfold probe.go at e; cases e
  | fuel + 1, p, j, d, hp, e => by
    unfold probe.go at e
    have adv : (t.advance p).dummy = none := by
      unfold advance
      split <;> exact hp
    cases q : t.slot p.j with
    | empty =>
      rw [q] at e
      simp only [Option.some.injEq, Met.empty.injEq] at e
      exact ⟨by rw [← e.1]; exact q, by rw [← e.2]; exact hp⟩
    | dummy => exact absurd q (slot_nodummy T p.j)
    | live i =>
      rw [q] at e
      simp only at e
      split at e
      · cases e
      · exact probe_free T f h fuel _ j d adv e
theorem Tb.put {t : SetTable} {led : Bool} (h : Tb t led) {j : Nat} (e : t.slot j = .empty) : Tb (t.put j).1 led := by
  refine ⟨?_, h.srt.insert (slot_empty h e), h.ld⟩
  show (if has t.dummies j then eraseAt t.dummies (below t.dummies j) else t.dummies) = #[]
  rw [h.dm, has_nil]
  rfl
theorem Tb.layNew {t : SetTable} {led : Bool} (T : Tb t led) (es : Array (Int × Value)) (h : Int) (x : Value) : Tb (layNew t es h x).2.1 led := by
  unfold PySem.layNew
  cases q : t.freeSlot h with
  | none => exact T.standIn _
  | some r =>
    obtain ⟨slot, wd⟩ := r
    have hs : t.slot slot = .empty := by
      unfold SetTable.freeSlot SetTable.probe at q
      split at q
      · rename_i j dummy e
        obtain ⟨a, b⟩ := probe_free T _ h _ _ _ _ rfl e
        subst b
        simp only [Option.some.injEq, Prod.mk.injEq, Option.getD_none] at q
        rw [← q.1]; exact a
      · cases q
    have T1 := T.put hs
    show Tb ((t.put slot).1.orStandIn _) led
    unfold SetTable.orStandIn
    split
    · exact T1
    · exact T1.standIn _
theorem srt_filterMap (f : Nat → Option Nat) : ∀ (a n : Nat), ((List.range' a n).filterMap fun j => (f j).map fun k => (j, k)).map (·.1) |>.Pairwise (· < ·)
  | _, 0 => by simp
  | a, n + 1 => by
    have ih := srt_filterMap f (a + 1) n
    rw [List.range'_succ, List.filterMap_cons]
    cases q : f a with
    | none => simpa [q] using ih
    | some k =>
      simp only [Option.map_some, List.map_cons, List.pairwise_cons]
      refine ⟨fun b hb => ?_, ih⟩
      obtain ⟨p, hp, rfl⟩ := List.mem_map.mp hb
      obtain ⟨j, hj, e⟩ := List.mem_filterMap.mp hp
      have hj' := (List.mem_range'_1.mp hj).1
      cases q2 : f j with
      | none => rw [q2] at e; cases e
      | some k2 =>
        rw [q2] at e
        have e : (j, k2) = p := Option.some.inj e
        rw [← e]
        exact hj'
theorem srt_of_list {l : List Nat} (h : l.Pairwise (· < ·)) : Srt l.toArray := fun i j hi hj => by
  simp only [List.getElem_toArray]
  exact List.pairwise_iff_getElem.mp h i j _ _ hi
theorem Tb.relay {t : SetTable} {led : Bool} (T : Tb t led) (es : Array (Int × Value)) (w : Nat) : Tb (relayAll t es w).2.1 led := by
  unfold relayAll
  cases q : t.relaid (es.map (·.1)) w with
  | none => exact T.standIn _
  | some r =>
    obtain ⟨t', order⟩ := r
    simp only
    split
    · unfold SetTable.relaid SetTable.laid at q
      cases q2 : layClean (sizeAbove w - 1) (es.map (·.1)) with
      | none => rw [q2] at q; cases q
      | some owner =>
        rw [q2] at q
        have q := Option.some.inj q
        simp only [Prod.mk.injEq] at q
        rw [← q.1]
        refine ⟨rfl, ?_, T.ld⟩
        refine srt_of_list ?_
        have z := srt_filterMap (fun j => owner.getD j none) 0 (sizeAbove w - 1 + 1)
        rw [← List.range_eq_range'] at z
        exact z
    · exact T.standIn _
end STab
namespace STab
open PySem

/-- the int that an element is -/
def ikey (e : Int × Value) : Int := match e.2 with
  | .int k _ => k
  | _ => 0
section
variable {prog : Program} {w : World} {A : Around} {E : Value → Shared → Prop} {s : Shared} {a : Addr}
theorem ikey_is {es : List (Int × Value)} (h : ElemsOf (intKind prog w) es) {e : Int × Value} (he : e ∈ es) (k : Int) : (intKind prog w).is k e.2 = decide (ikey e = k) := by
  obtain ⟨⟨k', h1, _⟩, _⟩ := h e he
  obtain ⟨tk, e2⟩ := Value.isInt_shape (k := k') (v := e.2) h1
  have q : ikey e = k' := by unfold ikey; rw [e2]
  rw [q, e2]
  show Value.isInt k (.int k' tk) = _
  rw [Bool.eq_iff_iff]
  simp [Value.isInt]
/-- a set of ints: its members, each once -/
def SetI (prog : Program) (w : World) (h : Heap) (a : Addr) (led : Bool) (ks : List Int) : Prop :=
  ∃ (o : Obj) (es : Array (Int × Value)) (ep : Nat) (t : SetTable), h.get? a = some o ∧ o.ExactSet ∧ o.data = .set es ep t ∧ ElemsOf (intKind prog w) es.toList ∧ es.size < scanBound ∧ t.fits es.size = true ∧ Tb t led ∧ (es.toList.map ikey).Perm ks
theorem SetI.keep {h h' : Heap} {led : Bool} {ks : List Int} (x : SetI prog w h a led ks) (k : ∀ o, h.get? a = some o → h'.get? a = some o) : SetI prog w h' a led ks := by
  obtain ⟨o, es, ep, t, ho, r⟩ := x
  exact ⟨o, es, ep, t, k o ho, r⟩
theorem SetI.typeIs {led : Bool} {ks : List Int} (x : SetI prog w s.heap a led ks) : s.TypeIs (.ref a) "set" := by
  obtain ⟨o, es, ep, t, ho, hx, _⟩ := x
  exact ⟨o, ho, hx.1⟩
/-- the object that a store leaves -/
theorem SetI.stored {h : Heap} {o : Obj} {es es' : Array (Int × Value)} {ep : Nat} {t t' : SetTable} {led : Bool} {ks : List Int} (ho : h.get? a = some o) (hx : o.ExactSet) (hd : o.data = .set es ep t) (he : ElemsOf (intKind prog w) es'.toList)
    (hb : es'.size < scanBound) (hf : t'.fits es'.size = true) (T : Tb t' led) (p : (es'.toList.map ikey).Perm ks) :
    (h.update a (Obj.putSet es' t')).get? a = some { o with data := .set es' (ep + 1) t' } ∧ SetI prog w (h.update a (Obj.putSet es' t')) a led ks := by
  have g := Heap.get?_update_self (Obj.putSet es' t') ho (by rw [putSet_of es' t' hd]; rfl)
  rw [putSet_of es' t' hd] at g
  exact ⟨g, _, es', ep + 1, t', g, hx, rfl, he, hb, hf, T, p⟩
theorem add_int {k : Int} {tk : Tok} {led : Bool} {ks : List Int} {Q : Bool → Shared → Prop} (hS : SetI prog w s.heap a led ks) (room : ks.length + 1 < scanBound)
    (h : ∀ h', Heap.SameBut a s.heap h' → SetI prog w h' a led (if k ∈ ks then ks else k :: ks) → Q (decide (¬ k ∈ ks)) { s with heap := h' }) :
    wpAny (model prog w) A (setAddHashed a (.int k tk) (hashInt k)) Q E s := by
  obtain ⟨o, es, ep, t, ho, hx, hd, hel, hb, hf, T, pm⟩ := hS
  have hlen : es.size = ks.length := by rw [← pm.length_eq, List.length_map, Array.length_toList]
  have kis : (intKind prog w).is k (.int k tk) = true := by show Value.isInt k (.int k tk) = true; simp [Value.isInt]
  have found : ∀ e ∈ es.toList, (intKind prog w).is k e.2 = decide (ikey e = k) := fun e he => ikey_is hel he k
  unfold setAddHashed setAddHashedIn
  refine wpAny_holding (wpAny_bind (wpAny_setState_of ho hd hf ?_))
  dsimp only
  rw [byScan_of (knd := intKind prog w) (x := .int k tk) rfl hb hel]
  simp only [if_true]
  unfold setAddByScan
  refine wpAny_bind (wpAny_bind (wpAny_rule (wpAny_bind (wpAny_setScan_of (knd := intKind prog w) (k := k) kis ho hd hf hel ?_))))
  cases q : es.toList.findIdx? (fun e => (intKind prog w).is k e.2) with
  | some j =>
    obtain ⟨hj, pj, _⟩ := List.findIdx?_eq_some_iff_getElem.mp q
    have hm : k ∈ ks := by
      refine pm.mem_iff.mp (List.mem_map.mpr ⟨es.toList[j], List.getElem_mem hj, ?_⟩)
      rw [found _ (List.getElem_mem hj)] at pj
      exact of_decide_eq_true pj
    have z := h s.heap (Heap.SameBut.refl a s.heap) (by rw [if_pos hm]; exact ⟨o, es, ep, t, ho, hx, hd, hel, hb, hf, T, pm⟩)
    rw [decide_eq_false (fun n => n hm)] at z
    exact wpAny_pure (wpAny_pure z)
  | none =>
    have hm : ¬ k ∈ ks := fun hk => by
      obtain ⟨e, he, e1⟩ := List.mem_map.mp (pm.mem_iff.mpr hk)
      have n := List.findIdx?_eq_none_iff.mp q e he
      rw [found e he, decide_eq_true e1] at n
      cases n
    have perm := layNew_perm t es (hashInt k) (.int k tk)
    have fit := layNew_fits t es (hashInt k) (.int k tk)
    have T1 := T.layNew es (hashInt k) (.int k tk)
    dsimp only
    show wpAny _ _ (match layNew t es (hashInt k) (.int k tk) with | (es, t, wasDummy, gave) => _) _ _ s
    generalize layNew t es (hashInt k) (.int k tk) = L at perm fit T1
    obtain ⟨es1, t1, wd, gave⟩ := L
    dsimp only at perm fit T1 ⊢
    rw [Array.toList_push] at perm
    have el1 : ElemsOf (intKind prog w) es1.toList := ((hel.push (knd := intKind prog w) (k := k) (x := .int k tk) kis rfl)).perm perm
    have pm1 : (es1.toList.map ikey).Perm (k :: ks) := by
      refine (perm.map ikey).trans ?_
      rw [List.map_append]
      exact (pm.append_right _).trans (List.perm_append_comm)
    have sz1 : es1.size = ks.length + 1 := by rw [← Array.length_toList, ← List.length_map (f := ikey), pm1.length_eq]; rfl
    have b1 : es1.size < scanBound := by omega
    have fin : ∀ h', Heap.SameBut a s.heap h' → SetI prog w h' a led (k :: ks) → Q true { s with heap := h' } := fun h' sb x => by
      have z := h h' sb (by rw [if_neg hm]; exact x)
      rw [decide_eq_true hm] at z
      exact z
    refine wpAny_bind (m := (match gave with | true => rule "set.scan.the-table-gave-way" | false => pure () : Sem Unit)) ?_
    have gw : ∀ (b : Bool) {s₁ : Shared} {Q' : Unit → Shared → Prop}, Q' () s₁ → wpAny (model prog w) A (match b with | true => rule "set.scan.the-table-gave-way" | false => pure () : Sem Unit) Q' E s₁ := fun b s₁ Q' z => by
      cases b with
      | true => exact wpAny_rule z
      | false => exact wpAny_pure z
    refine gw gave ?_
    -- the table behind the test of the hash
    have tail : ∀ t2 : SetTable, t2.fits es1.size = true → Tb t2 led → wpAny (model prog w) A (do
        storeSet a es1 t2
        if (!wd && t2.tooFull) = true then do
            (match (relayAll t2 es1 (SetTable.grown es1.size)).2.2 with | true => rule "set.scan.the-table-gave-way" | false => pure () : Sem Unit)
            storeSet a (relayAll t2 es1 (SetTable.grown es1.size)).1 (relayAll t2 es1 (SetTable.grown es1.size)).2.1
            pure (some true)
          else pure (some true))
        (fun r s' => wpAny (model prog w) A (match r with | some added => pure added | none => setAddHashedIn a (.int k tk) (hashInt k) 99999) Q E s') E s := by
      intro t2 f2 T2
      refine wpAny_bind (wpAny_storeSet_of ho hd ?_ (fits_of_scanBound b1))
      obtain ⟨g1, x1⟩ := SetI.stored (prog := prog) (w := w) ho hx hd el1 b1 f2 T2 pm1
      have sb1 := Heap.SameBut.update s.heap a (Obj.putSet es1 t2)
      split
      · have rp := relayAll_perm t2 es1 (SetTable.grown es1.size)
        have rf := relayAll_fits t2 es1 (SetTable.grown es1.size)
        have rT := T2.relay es1 (SetTable.grown es1.size)
        generalize relayAll t2 es1 (SetTable.grown es1.size) = R at rp rf rT
        obtain ⟨es2, t3, gv⟩ := R
        dsimp only at rp rf rT ⊢
        have sz2 : es2.size = es1.size := by rw [← Array.length_toList, rp.length_eq, Array.length_toList]
        have b2 : es2.size < scanBound := by omega
        refine wpAny_bind (gw gv ?_)
        refine wpAny_bind (wpAny_storeSet_of g1 rfl ?_ (fits_of_scanBound b2))
        obtain ⟨_, x2⟩ := SetI.stored (prog := prog) (w := w) g1 hx rfl (el1.perm rp) b2 rf rT ((rp.map ikey).trans pm1)
        exact wpAny_pure (wpAny_pure (fin _ (sb1.trans (Heap.SameBut.update _ a _)) x2))
      · exact wpAny_pure (wpAny_pure (fin _ sb1 x1))
    split
    · refine wpAny_bind ?_
      rw [hashByValue_scannable 8 (x := .int k tk) rfl]
      refine wpAny_pure ?_
      exact tail _ fit T1
    · exact wpAny_bind (wpAny_pure (tail _ fit T1))
end
end STab
namespace STab
open PySem PyProof.Rows

/-- one more member -/
def addI (ks : List Int) (v : Int) : List Int := if v ∈ ks then ks else v :: ks
theorem mem_addI {ks : List Int} {v k : Int} : k ∈ addI ks v ↔ k = v ∨ k ∈ ks := by
  unfold addI
  split
  · constructor
    · exact .inr
    · rintro (rfl | h)
      · assumption
      · exact h
  · exact List.mem_cons
theorem nodup_addI {ks : List Int} {v : Int} (h : ks.Nodup) : (addI ks v).Nodup := by
  unfold addI
  split
  · exact h
  · exact List.nodup_cons.mpr ⟨by assumption, h⟩
theorem len_addI (ks : List Int) (v : Int) : (addI ks v).length ≤ ks.length + 1 := by
  unfold addI
  split
  · omega
  · simp
theorem mem_adds : ∀ {vs ks : List Int} {k : Int}, k ∈ vs.foldl addI ks ↔ k ∈ vs ∨ k ∈ ks
  | [], ks, k => by simp
  | v :: vs, ks, k => by
    rw [List.foldl_cons, mem_adds, mem_addI, List.mem_cons]
    constructor
    · rintro (h | rfl | h)
      · exact .inl (.inr h)
      · exact .inl (.inl rfl)
      · exact .inr h
    · rintro ((rfl | h) | h)
      · exact .inr (.inl rfl)
      · exact .inl h
      · exact .inr (.inr h)
theorem nodup_adds : ∀ {vs ks : List Int}, ks.Nodup → (vs.foldl addI ks).Nodup
  | [], _, h => h
  | v :: vs, ks, h => by rw [List.foldl_cons]; exact nodup_adds (nodup_addI h)
theorem len_adds : ∀ (vs ks : List Int), (vs.foldl addI ks).length ≤ ks.length + vs.length
  | [], ks => by simp
  | v :: vs, ks => by
    rw [List.foldl_cons]
    have a := len_adds vs (addI ks v)
    have b := len_addI ks v
    simp only [List.length_cons]
    omega

section
variable {prog : Program} {w : World} {A : Around} {R : Result → Shared → Prop} {I : Addr} {fp wr : List Addr} {G : Array GenState → Array GenState → Prop} {n : Nat} {P : Nat → Value → Prop} {St : Nat → Shared → Prop}
theorem fill_loop (W : WalksS prog w A.in1 I fp wr G n P St) (S : Addr) (out : S ∉ fp) (led : Bool) (val : Nat → Int) (hval : ∀ i v, P i v → ∃ t, v = .int (val i) t) :
    ∀ (m i : Nat) (ks : List Int) (s : Shared), i + m = n → St i s → SetI prog w s.heap S led ks → ks.length + m + 1 < scanBound →
      (∀ s', Moved (S :: wr) G s s' → SetI prog w s'.heap S led (((List.range' i m).map val).foldl addI ks) → R (.ok (.ret .none)) s') →
      codeAny (model prog w) A (.builtin "set.update.loop" ⟨[.ref S, .ref I], []⟩) R s
  | 0, i, ks, s, hn, st, hS, _, fin => by
    have e : i = n := by omega
    subst e
    refine codeAny_builtin F.entry_set_update_loop ?_
    rw [Around.under_plainId F.plain_set_update_loop _]
    show wpAny _ A.in1 (pyNext (.ref I) >>= _) _ _ s
    refine wpAny_bind (W.done s _ _ st fun s' mv => wpAny_pure (fin s' (mv.mono fun b hb => List.mem_cons_of_mem _ hb) (hS.keep fun o e => mv.heap S o (fun z => out (W.sub _ z)) e)))
  | m + 1, i, ks, s, hn, st, hS, room, fin => by
    refine codeAny_builtin F.entry_set_update_loop ?_
    rw [Around.under_plainId F.plain_set_update_loop _]
    show wpAny _ A.in1 (pyNext (.ref I) >>= _) _ _ s
    refine wpAny_bind (W.item i s _ _ (by omega) st fun v s' pv st' mv => ?_)
    obtain ⟨tk, rfl⟩ := hval i v pv
    have hS' := hS.keep fun o e => mv.heap S o (fun z => out (W.sub _ z)) e
    show wpAny _ A.in1 (holding [Value.int (val i) tk] (setAdd S (.int (val i) tk)) >>= _) _ _ s'
    unfold setAdd
    refine wpAny_bind (wpAny_holding (wpAny_holding (wpAny_bind ((intKind prog w).pyHash (k := val i) (intKind_is _ _ _ _) ?_))))
    refine add_int (s := { s' with toks := s'.toks + 1 }) hS' (by omega) fun h' sb x => ?_
    have room' : (addI ks (val i)).length + m + 1 < scanBound := by
      have := len_addI ks (val i)
      omega
    refine wpAny_pure ⟨plainId_quiet F.plain_set_update_loop _, fill_loop W S out led val hval m (i + 1) (addI ks (val i)) _ (by omega) (W.frame _ s' _ _ st' (Nat.le_succ _) fun b hb o e => ?_) x room' fun s'' mv'' x'' => ?_⟩
    · rw [sb.2 b (fun z : b = S => out (by rw [← z]; exact hb))]; exact e
    · refine fin s'' (Moved.trans W.gtrans ((mv.mono fun b hb => List.mem_cons_of_mem _ hb).then_heap (Nat.le_succ _) fun b o hb e => ?_) mv'') x''
      rw [sb.2 b (fun z : b = S => hb (by rw [z]; exact List.mem_cons_self))]; exact e
end

section
variable {prog : Program} {w : World} {A : Around} {E : Value → Shared → Prop} {s : Shared}
/-- how the world orders sets -/
abbrev ledIn (w : World) : Bool := !(w.params.followText "set-order")
theorem new_set (a : Value) {Q1 : Value → Shared → Prop}
    (h : Q1 (.ref s.heap.objs.size) { s with heap := s.heap.push { cls := .type "set", dict := none, data := .set #[] 0 (.fresh 0 0 (ledIn w)) } }) :
    codeAny (model prog w) A (.call (.builtin "set.__new__") ⟨[.type "set", a], []⟩) (wants Q1 E) s := by
  refine codeAny_of_tree ?_
  show wpAny _ A.in1 (checkBuiltinCall "set.__new__" ⟨[.type "set", a], []⟩ >>= fun _ => again (.builtin "set.__new__" ⟨[.type "set", a], []⟩)) _ _ s
  refine wpAny_bind (wpAny_of_eq (PySem.F.newCall_set_1 a) (wpAny_pure ⟨plainId_quiet PySem.F.plain_set_new _, codeAny_builtin PySem.F.entry_set_new ?_⟩))
  rw [Around.under_plainId PySem.F.plain_set_new _]
  unfold Builtin.«set.__new__» Builtin.Frozenset.newClass
  have sub := sub_set_self
  obtain ⟨hp, g, d, tk, os⟩ := s
  dsimp only
  wp_walk
  refine wpAny_askSetting (wpAny_pure ?_)
  simp only [newObj]
  exact wpAny_bind (wpAny_alloc (wpAny_pure (wpAny_pure h)))

set_option maxHeartbeats 3200000 in
set_option maxRecDepth 100000 in
theorem set_of_list {l : Addr} {items : Array Value} {ns : List Int} {Q : Value → Shared → Prop} (calm : A.handled = none) (hl : s.heap.IsList l items) (hi : IntsAre items.toList ns) (hb : items.size + 1 < scanBound)
    (h : ∀ (h' : Heap) (tk : Nat), SetI prog w h' s.heap.objs.size (ledIn w) (ns.foldl addI []) → (∀ b o, s.heap.get? b = some o → h'.get? b = some o) → Q (.ref s.heap.objs.size) { s with heap := h', toks := tk }) :
    wpAny (model prog w) A (call (.type "set") [.ref l]) Q E s := by
  obtain ⟨c, tl, mro⟩ := PySem.F.called_set.mro
  have made := PySem.F.called_set.made
  have sub := PySem.F.called_set.sub
  refine wpAny_call (codeAny_of_tree ?_)
  show wpAny _ _ (callAny (.type "set") _) _ _ _
  refine wpAny_pure ⟨Code.quiet_builtin _ (by decide +kernel), codeAny_builtin PySem.F.entry_type_call ?_⟩
  rw [Around.under_plain (weight_type_call_type "set" [.ref l] []) rfl]
  have noT := PySem.F.called_set.notType
  have canC := PySem.F.called_set.canCreate
  have tc := PySem.F.typeCall_set_1 (.ref l)
  repeat (any_goals (first | assumption | wp_step))
  refine codeAny_mono (new_set (.ref l) (E := E) (Q1 := fun obj s1 => obj = .ref s.heap.objs.size ∧ s1 = { s with heap := s.heap.push { cls := .type "set", dict := none, data := .set #[] 0 (.fresh 0 0 (ledIn w)) } }) ⟨rfl, rfl⟩) fun r s1 hr => ?_
  cases r with
  | error e => exact hr
  | ok fl =>
    cases fl with
    | ret obj =>
      obtain ⟨rfl, rfl⟩ := hr
      have g0 : (s.heap.push { cls := .type "set", dict := none, data := .set #[] 0 (.fresh 0 0 (ledIn w)) }).get? s.heap.objs.size = some { cls := .type "set", dict := none, data := .set #[] 0 (.fresh 0 0 (ledIn w)) } := Heap.get?_push_size _ rfl
      have ty : Shared.TypeIs { s with heap := s.heap.push { cls := .type "set", dict := none, data := .set #[] 0 (.fresh 0 0 (ledIn w)) } } (.ref s.heap.objs.size) "set" := ⟨_, g0, rfl⟩
      have li := PySem.F.called_set.init.lookup
      have bi := PySem.F.called_set.init.bind (.ref s.heap.objs.size)
      repeat (any_goals (first | assumption | wp_step))
      refine codeAny_mono (codeAny_call_builtin (R := wants (fun r s2 => r = .none ∧ ∃ h' tk, s2 = { s with heap := h', toks := tk } ∧ SetI prog w h' s.heap.objs.size (ledIn w) (ns.foldl addI []) ∧ (∀ b o, s.heap.get? b = some o → h'.get? b = some o)) E)
        PySem.F.called_set.init.plain PySem.F.entry_set_init (check_set_init_1 ty ?_)) fun r2 s2 hr2 => ?_
      · obtain ⟨ol, hol, hcl, nl, hdl⟩ := hl
        obtain ⟨oc, od, odt, osl⟩ := ol
        simp only at hcl hdl
        subst hcl; subst hdl
        have hol' : (s.heap.push { cls := .type "set", dict := none, data := .set #[] 0 (.fresh 0 0 (ledIn w)) }).get? l = some { cls := .type "list", dict := od, data := .seq items nl, slots := osl } := Heap.get?_push_of_some _ hol
        have s1 := PySem.F.sub_list_set
        have s2 := PySem.F.sub_list_frozenset
        have ne : (Value.type "list" == Value.type "dict") = false := by decide
        have hl1 : (s.heap.push { cls := .type "set", dict := none, data := .set #[] 0 (.fresh 0 0 (ledIn w)) }).IsList l items := ⟨_, hol', rfl, nl, rfl⟩
        unfold Builtin.«set.__init__» noKeywords Builtin.Frozenset.updateFrom
        generalize ePI : pyIter = PI
        wp_walk
        subst ePI
        refine wpAny_pyIter_list hl1 (wpAny_bind (wpAny_runValue ?_))
        have lt : l < s.heap.objs.size := Heap.lt_size hol
        have calm3 : A.in1.in1.in1.handled = none := by simp [calm]
        have sz := Heap.size_push s.heap { cls := .type "set", dict := none, data := .set #[] 0 (.fresh 0 0 (ledIn w)) }
        have neI : l ≠ (s.heap.push { cls := .type "set", dict := none, data := .set #[] 0 (.fresh 0 0 (ledIn w)) }).objs.size := by rw [sz]; exact Nat.ne_of_lt (Nat.lt_succ_of_lt lt)
        have off : s.heap.objs.size ∉ [(s.heap.push { cls := .type "set", dict := none, data := .set #[] 0 (.fresh 0 0 (ledIn w)) }).objs.size, l] := fun z => by
          rw [sz] at z
          rcases List.mem_cons.mp z with z | z
          · exact absurd z (Nat.ne_of_lt (Nat.lt_succ_self _))
          · exact absurd (List.mem_singleton.mp z) (Nat.ne_of_gt lt)
        have vals : ∀ (i : Nat) (v : Value), items[i]? = some v → ∃ t, v = .int ((fun i => ns.getD i 0) i) t := fun i v hv => IntsAre.int_at hi i v (by rw [Array.getElem?_toList]; exact hv)
        have hlen : items.size = ns.length := by rw [← hi.length, Array.length_toList]
        refine fill_loop ((Walks.list calm3 _ l neI items).toS) s.heap.objs.size off (ledIn w) (fun i => ns.getD i 0) vals items.size 0 [] _ (Nat.zero_add _) ⟨⟨_, Heap.get?_push_size _ rfl, rfl, rfl⟩, (hl1.push _)⟩ ?set0 (by simpa using hb) ?after
        case set0 => exact ⟨_, #[], 0, _, Heap.get?_push_of_some _ g0, ⟨rfl, rfl, rfl⟩, rfl, (fun e he => by simp at he), by decide, by rfl, Tb.fresh 0 0 _, by simp⟩
        case after =>
          intro s' mv x'
          obtain ⟨h', g', d', tk', os'⟩ := s'
          have eg : g' = s.gens := mv.gens
          have ed : d' = s.drawn := mv.drawn
          have eo : os' = s.os := mv.os
          subst eg; subst ed; subst eo
          have ev : (List.range' 0 items.size).map (fun i => ns.getD i 0) = ns := by
            rw [hlen, ← List.range_eq_range']
            refine List.ext_getElem (by simp) fun i h1 h2 => ?_
            simp [h2]
          rw [ev] at x'
          show wpAny _ _ _ _ _ _
          refine wpAny_pure ?_
          show wpAny _ _ (ret Value.none) _ _ _
          refine wpAny_pure ⟨rfl, h', tk', rfl, x', fun b o e => ?_⟩
          have lb := Heap.lt_size e
          refine mv.heap b o (fun z => ?_) (Heap.get?_push_of_some _ (Heap.get?_push_of_some _ e))
          rcases List.mem_cons.mp z with z | z
          · exact absurd z (Nat.ne_of_lt lb)
          · rw [List.mem_singleton.mp z, sz] at lb
            exact absurd lb (Nat.not_lt.mpr (Nat.le_succ _))
      · cases r2 with
        | error e => exact hr2
        | ok fl2 =>
          cases fl2 with
          | ret r =>
            obtain ⟨rfl, h', tk, rfl, x', k'⟩ := hr2
            repeat (any_goals (first | assumption | wp_step))
            exact h _ _ x' k'
          | _ => exact hr2.elim
    | _ => exact hr.elim
end
end STab
namespace STab
open PySem PyProof.Rows
section
variable {prog : Program} {w : World} {A : Around} {E : Value → Shared → Prop} {s : Shared}
theorem collect_range (calm : A.handled = none) {r : Addr} {lo hi : Int} {t u v : Tok} {n : Nat} {Q : List Value → Shared → Prop} (hr : IsRange s.heap r lo hi 1 t u v) (sm : Builtin.Range.small lo hi 1 = true) (hn : Builtin.Range.rangeSize lo hi 1 = n) (hl : n ≤ 2 ^ 24)
    (h : ∀ (h' : Heap) (tk : Nat) (vs : List Value), (∀ b o, s.heap.get? b = some o → h'.get? b = some o) → IntsAre vs ((List.range n).map fun (i : Nat) => lo + (i : Int)) → Q vs { s with heap := h', toks := tk }) : wpAny (model prog w) A (collect (.ref r)) Q E s := by
  unfold collect
  refine wpAny_bind (wpAny_runValue (codeAny_builtin PySem.F.entry_proto_collect ?_))
  rw [Around.under_plainId PySem.F.plain_proto_collect _]
  show wpAny _ A.in1 (newList [] >>= fun l => again (.builtin "list.__iadd__" ⟨[l, .ref r], []⟩)) _ _ s
  refine wpAny_bind (wpAny_newObj_type (wpAny_pure ⟨plainId_quiet PySem.F.plain_list_iadd _, codeAny_builtin PySem.F.entry_list_iadd ?_⟩))
  rw [Around.under_plainId PySem.F.plain_list_iadd _]
  show wpAny _ A.in1 (Builtin.List.listExtendWith (.ref s.heap.objs.size) (.ref r) (.ref s.heap.objs.size)) _ _ _
  refine wpAny_extend_range (A := A) (R := fun r s' => match r with | .ok (.ret v) => wpAny (model prog w) A (match v with | .ref a => (do let o ← load a; match o.data with | .seq xs _ => pure xs.toList | _ => unsupported "internal:collect") | _ => unsupported "internal:collect") Q E s' | .ok _ => False | .error e => E e s')
    (s := { s with heap := s.heap.push { cls := .type "list", dict := none, data := .seq ([] : List Value).toArray } }) calm (Heap.get?_push_of_some _ hr) sm hn hl s.heap.objs.size (.ref s.heap.objs.size) 0 (Heap.get?_push_size s.heap rfl) fun h' tk acc c' k hL items => ?_
  show wpAny _ A (load s.heap.objs.size >>= _) _ _ _
  refine wpAny_bind (wpAny_load hL (wpAny_pure (h h' tk acc.toList (fun b o e => k b o (Nat.ne_of_lt (Heap.lt_size e)) (Heap.get?_push_of_some _ e)) ?_)))
  have go : ∀ (m : Nat) (xs : List Value), xs.length = m → (∀ (j : Nat) (v : Value), xs[j]? = some v → ∃ t, v = Value.int (lo + (j : Int) * 1) t) → IntsAre xs ((List.range m).map fun (i : Nat) => lo + (i : Int)) := by
    intro m
    induction m with
    | zero =>
      intro xs e _
      have : xs = [] := List.length_eq_zero_iff.mp e
      subst this
      exact .nil
    | succ m ih =>
      intro xs e g
      have hne : xs ≠ [] := fun z => by rw [z] at e; cases e
      have es : xs = xs.dropLast ++ [xs.getLast hne] := (List.dropLast_concat_getLast hne).symm
      have dl : xs.dropLast.length = m := by rw [List.length_dropLast, e]; rfl
      obtain ⟨t, et⟩ := g m (xs.getLast hne) (by rw [List.getLast_eq_getElem]; simp [e])
      have ih' := ih xs.dropLast dl fun j v hv => g j v (by
        rw [es, List.getElem?_append_left (by have := (List.getElem?_eq_some_iff.mp hv).1; exact this)]
        exact hv)
      rw [es, et, List.range_succ, List.map_append]
      have cat : ∀ {a b : List Value} {x y : List Int}, IntsAre a x → IntsAre b y → IntsAre (a ++ b) (x ++ y) := by
        intro a b x y p q
        induction p with
        | nil => exact q
        | cons n t _ ih2 => exact .cons n t ih2
      refine cat ih' ?_
      rw [Int.mul_one]
      exact .cons _ t .nil
  refine go n acc.toList (by rw [Array.length_toList]; exact items.1) fun j v hv => items.2 j v (by rw [← Array.getElem?_toList]; exact hv)
theorem tup_range (r : Addr) {lo hi : Int} {t u v : Tok} {n : Nat} (sm : Builtin.Range.small lo hi 1 = true) (hn : Builtin.Range.rangeSize lo hi 1 = n) (hl : n ≤ 1000) :
    Meets (Builtin.«tuple.__new__» ⟨[.type "tuple", .ref r], []⟩)
      (fun A R s => A.handled = none ∧ IsRange s.heap r lo hi 1 t u v ∧ ∀ (h' : Heap) (tk : Nat) (vs : List Value), (∀ b o, s.heap.get? b = some o → h'.get? b = some o) → IntsAre vs ((List.range n).map fun (i : Nat) => lo + (i : Int)) →
        R (.ok (.ret (.ref h'.objs.size))) { s with heap := h'.push { cls := .type "tuple", data := .seq vs.toArray }, toks := tk }) :=
  .of_wp fun prog w A R s h => by
    obtain ⟨calm, hr, h⟩ := h
    have sub := sub_tuple_self
    have init := init_tuple_lookup
    have mh := madeHere_tuple
    have ty : s.TypeIs (.ref r) "range" := ⟨_, hr, rfl⟩
    have calm1 : A.in1.handled = none := calm
    wp_walk using wpAny_typeOf ty, collect_range calm1 hr sm hn (Nat.le_trans hl (by decide))
    intro h' tk vs k hi
    have hv : vs.length = n := by rw [hi.length]; simp
    show wpAny _ _ (Builtin.Tuple.tupleExact vs.toArray >>= fun v => ret v) _ _ _
    unfold Builtin.Tuple.tupleExact
    refine wpAny_bind (wpAny_newObj_type ?_ (show vs.toArray.size ≤ sizeLine by rw [List.size_toArray, hv]; exact Nat.le_trans hl (by decide)))
    exact wpAny_pure ⟨_, rfl, h h' tk vs k hi⟩
theorem call_tup_range (calm : A.handled = none) {r : Addr} {lo hi : Int} {t u v : Tok} {n : Nat} {Q : Value → Shared → Prop} (hr : IsRange s.heap r lo hi 1 t u v) (sm : Builtin.Range.small lo hi 1 = true) (hn : Builtin.Range.rangeSize lo hi 1 = n) (hl : n ≤ 1000)
    (h : ∀ (h' : Heap) (tk : Nat) (vs : List Value), (∀ b o, s.heap.get? b = some o → h'.get? b = some o) → IntsAre vs ((List.range n).map fun (i : Nat) => lo + (i : Int)) → Q (.ref h'.objs.size) { s with heap := h'.push { cls := .type "tuple", data := .seq vs.toArray }, toks := tk }) :
    wpAny (model prog w) A (call (.type "tuple") [.ref r]) Q E s := by
  refine callType_new PySem.F.called_tuple (by decide) (PySem.F.typeCall_tuple_1 _) (PySem.F.newCall_tuple_1 _) (fun obj => PySem.F.args_object_init_2 obj _) PySem.F.entry_tuple_new (tup_range (t := t) (u := u) (v := v) r sm hn hl) ⟨calm, hr, fun h' tk vs k hi => ⟨⟨_, Heap.get?_push_size _ rfl, rfl⟩, ?_⟩⟩
  exact h h' tk vs k hi
end
end STab
namespace L2
open PySem PySem.Spec PyProof.Rows

/-! ### range as a value; tuple and list of it; count, sum -/
/-- lo, lo + 1, .. below hi -/
def rngL (lo hi : Int) : List Int := (List.range (hi - lo).toNat).map fun (i : Nat) => lo + (i : Int)
section
variable {X : Cx}
theorem call_range1 : CallR X (.type "range") (fun xs H Q => ∃ j : Int, xs = [.int j] ∧ ∀ q, H q = none → Q (.ref q) (upd H q (.rng 0 j))) := by
  intro pins s σ H xs us Q I r h
  obtain ⟨j, rfl, q⟩ := h
  obtain ⟨u, rfl, t, rfl⟩ := vals1 r
  refine call_range_1 ⟨.ref s.heap.objs.size, _, I.laid (fun _ _ e => Heap.get?_push_of_some _ e) (Nat.le_refl _) ?_, rfl, q _ (I.hok.fresh (Nat.le_refl _))⟩
  exact ⟨_, _, _, Heap.get?_push_size _ rfl⟩
theorem rng_small {lo hi : Int} (h1 : -1000000 ≤ lo) (h2 : hi ≤ 1000000) (h3 : lo ≤ 1000000) (h4 : -1000000 ≤ hi) : Builtin.Range.small lo hi 1 = true ∧ Builtin.Range.rangeSize lo hi 1 = ((hi - lo).toNat : Nat) := by
  refine ⟨small_one (by omega) (by omega) (by omega) (by omega), ?_⟩
  rw [rangeSize_one]; split <;> omega
theorem call_tuple_rng (hc : X.calm = true) : CallR X (.type "tuple") (fun xs H Q => ∃ (p : Addr) (lo hi : Int), xs = [.ref p] ∧ H p = some (.rng lo hi) ∧ (-1000 ≤ lo ∧ lo ≤ 1000 ∧ -1000 ≤ hi ∧ hi ≤ 1000 ∧ hi - lo ≤ 1000) ∧ ∀ q, H q = none → Q (.ref q) (upd H q (.tup ((rngL lo hi).map V.int)))) := by
  intro pins s σ H xs us Q I r h
  obtain ⟨p, lo, hi, rfl, hp, ⟨b1, b2, b3, b4, b5⟩, q⟩ := h
  obtain ⟨u, rfl, rx⟩ := vals1 r
  cases rx
  obtain ⟨t, u, v, e⟩ := I.hok p _ hp
  have sm := rng_small (lo := lo) (hi := hi) (by omega) (by omega) (by omega) (by omega)
  refine STab.call_tup_range (I.ok.hd hc) (show IsRange s.heap p lo hi 1 t u v from e) sm.1 sm.2 (by omega) fun h' tk vs k hv => ?_
  have I1 : Inv X pins σ H { s with heap := h', toks := tk } := I.kept (t' := tk) k
  have hl : ((rngL lo hi).map V.int).length ≤ sizeLine := by
    rw [List.length_map]; unfold rngL; rw [List.length_map, List.length_range]
    exact Nat.le_trans (show (hi - lo).toNat ≤ 1000 by omega) (by decide)
  refine ⟨.ref h'.objs.size, _, I1.laid (t' := tk) (fun b o e => Heap.get?_push_of_some _ e) (Nat.le_refl _) (show ObjOk X.prog X.w _ _ _ (.tup _) from ⟨hl, vs, vals_ints hv, IsTup.new _ _⟩), rfl, q _ (I1.hok.fresh (Nat.le_refl _))⟩
theorem ints_range {lo : Int} {acc : Array Value} {n : Nat} (items : ItemsOf (fun i v => ∃ t, v = Value.int (lo + (i : Int) * 1) t) acc n) : IntsAre acc.toList ((List.range n).map fun (i : Nat) => lo + (i : Int)) := by
  have go : ∀ (m : Nat) (xs : List Value), xs.length = m → (∀ (j : Nat) (v : Value), xs[j]? = some v → ∃ t, v = Value.int (lo + (j : Int) * 1) t) → IntsAre xs ((List.range m).map fun (i : Nat) => lo + (i : Int)) := by
    intro m
    induction m with
    | zero =>
      intro xs e _
      have : xs = [] := List.length_eq_zero_iff.mp e
      subst this
      exact .nil
    | succ m ih =>
      intro xs e g
      have hne : xs ≠ [] := fun z => by rw [z] at e; cases e
      have es : xs = xs.dropLast ++ [xs.getLast hne] := (List.dropLast_concat_getLast hne).symm
      have dl : xs.dropLast.length = m := by rw [List.length_dropLast, e]; rfl
      obtain ⟨t, et⟩ := g m (xs.getLast hne) (by rw [List.getLast_eq_getElem]; simp [e])
      have ih' := ih xs.dropLast dl fun j v hv => g j v (by
        rw [es, List.getElem?_append_left (by have := (List.getElem?_eq_some_iff.mp hv).1; exact this)]
        exact hv)
      rw [es, et, List.range_succ, List.map_append]
      have cat : ∀ {a b : List Value} {x y : List Int}, IntsAre a x → IntsAre b y → IntsAre (a ++ b) (x ++ y) := by
        intro a b x y p q
        induction p with
        | nil => exact q
        | cons n t _ ih2 => exact .cons n t ih2
      refine cat ih' ?_
      rw [Int.mul_one]
      exact .cons _ t .nil
  exact go n acc.toList (by rw [Array.length_toList]; exact items.1) fun j v hv => items.2 j v (by rw [← Array.getElem?_toList]; exact hv)
theorem call_list_rng (hc : X.calm = true) : CallR X (.type "list") (fun xs H Q => ∃ (p : Addr) (lo hi : Int), xs = [.ref p] ∧ H p = some (.rng lo hi) ∧ (-1000 ≤ lo ∧ lo ≤ 1000 ∧ -1000 ≤ hi ∧ hi ≤ 1000 ∧ hi - lo ≤ 1000) ∧ ∀ q, H q = none → Q (.ref q) (upd H q (.lst ((rngL lo hi).map V.int)))) := by
  intro pins s σ H xs us Q I r h
  obtain ⟨p, lo, hi, rfl, hp, ⟨b1, b2, b3, b4, b5⟩, q⟩ := h
  obtain ⟨u, rfl, rx⟩ := vals1 r
  cases rx
  obtain ⟨t, u, v, e⟩ := I.hok p _ hp
  have sm := rng_small (lo := lo) (hi := hi) (by omega) (by omega) (by omega) (by omega)
  refine call_list_range (I.ok.hd hc) (show IsRange s.heap p lo hi 1 t u v from e) sm.1 sm.2 (by omega) fun h' tk acc c k hL items => ?_
  have hl : ((rngL lo hi).map V.int).length ≤ sizeLine := by
    rw [List.length_map]; unfold rngL; rw [List.length_map, List.length_range]
    exact Nat.le_trans (show (hi - lo).toNat ≤ 1000 by omega) (by decide)
  exact ⟨.ref s.heap.objs.size, _, I.laid (t' := tk) k (Nat.le_refl _) (show ObjOk X.prog X.w _ _ _ (.lst _) from ⟨hl, acc.toList, c, vals_ints (ints_range items), by simpa using hL⟩), rfl, q _ (I.hok.fresh (Nat.le_refl _))⟩
/-- xs.count(k), a list of ints -/
theorem mt_count : MtM X "list.count" (fun x vs H Q => ∃ (l : Addr) (ns : List Int) (k : Int), x = .ref l ∧ vs = [.int k] ∧ SqL X.K H l (ns.map V.int) ∧ Q (.int (ns.count k : Nat)) H) := by
  intro pins s σ H x vs v us Q I rx rv h
  obtain ⟨l, ns, k, rfl, rfl, hq, q⟩ := h
  cases rx
  obtain ⟨u, rfl, t, rfl⟩ := rv.one
  obtain ⟨its, r, pl, hz⟩ := I.list hq
  exact count_list_ints pl.isList (intsAre_of r) ⟨.int (ns.count k : Nat), H, I.tok _, ⟨_, rfl⟩, q⟩
end
end L2
namespace STab
open PySem PyProof.Rows
open AutoSeq1 (wpAny_loadPart')
section
variable {prog : Program} {w : World} {A : Around} {E : Value → Shared → Prop} {s : Shared}
theorem nextOf_tup_item {it t : Addr} {i : Nat} {items : Array Value} {x : Value} {Q : Value → Shared → Prop} (hit : s.heap.IsTupleIter it t i) (ht : s.heap.IsTuple t items) (hx : items[i]? = some x)
    (hQ : ∀ h', h'.IsTupleIter it t (i + 1) → Heap.SameBut it s.heap h' → Q x { s with heap := h' }) : wpAny (model prog w) A (Builtin.SmallTypes.nextOf (.ref it)) Q E s := by
  obtain ⟨o, ho, hc, hd⟩ := id hit
  obtain ⟨ol, hol, _, nl, hdl⟩ := ht
  unfold Builtin.SmallTypes.nextOf
  refine wpAny_bind (wpAny_callSpecial?_slot (name := Str.ofString "__next__") hit.typeIs F.slot_tuple_iterator_next (wpAny_call_entry F.slot_tuple_iterator_next hit.typeIs F.entry_tuple_iterator_next ?_ (F.args_tuple_iterator_next_1 _)))
  show wpAny _ _ (field (.ref it) 0 >>= _) _ _ s
  refine wpAny_bind (wpAny_field ho hd (x := .ref t) rfl ?_)
  show wpAny _ _ (if (Value.ref t == Value.none) = true then _ else _) _ _ s
  rw [if_neg (show ¬ ((Value.ref t == Value.none) = true) from Bool.false_ne_true)]
  show wpAny _ _ (field (.ref it) 1 >>= _) _ _ s
  refine wpAny_bind (wpAny_field ho hd (x := .int i 0) rfl ?_)
  show wpAny _ _ (seqItems? (.ref t) >>= _) _ _ s
  refine wpAny_bind (wpAny_seqItems hol hdl ?_)
  simp only [Int.toNat_natCast, hx]
  refine wpAny_bind (wpAny_setField ho hd (by simp) (wpAny_pure ⟨x, rfl, wpAny_pure (hQ _ ?_ (Heap.SameBut.update ..))⟩))
  exact ⟨_, Heap.get?_update_self _ ho (Obj.isFreed_of_fields (Obj.data_mapFields hd _)), (Obj.cls_mapFields ..).trans hc, by rw [Obj.data_mapFields hd]; simp [rawInt]⟩
theorem nextOf_tup_end {it t : Addr} {i : Nat} {items : Array Value} {Q : Value → Shared → Prop} (hh : A.handled = none) (hit : s.heap.IsTupleIter it t i) (ht : s.heap.IsTuple t items) (hx : items[i]? = none)
    (hE : ∀ h' e, Heap.ExtBut it s.heap h' → (∃ o, h'.get? e = some o ∧ o.cls = .type "StopIteration") → E (.ref e) { s with heap := h' }) : wpAny (model prog w) A (Builtin.SmallTypes.nextOf (.ref it)) Q E s := by
  obtain ⟨o, ho, hc, hd⟩ := id hit
  obtain ⟨ol, hol, _, nl, hdl⟩ := ht
  unfold Builtin.SmallTypes.nextOf
  refine wpAny_bind (wpAny_callSpecial?_slot (name := Str.ofString "__next__") hit.typeIs F.slot_tuple_iterator_next (wpAny_call_entry F.slot_tuple_iterator_next hit.typeIs F.entry_tuple_iterator_next ?_ (F.args_tuple_iterator_next_1 _)))
  show wpAny _ _ (field (.ref it) 0 >>= _) _ _ s
  refine wpAny_bind (wpAny_field ho hd (x := .ref t) rfl ?_)
  show wpAny _ _ (if (Value.ref t == Value.none) = true then _ else _) _ _ s
  rw [if_neg (show ¬ ((Value.ref t == Value.none) = true) from Bool.false_ne_true)]
  show wpAny _ _ (field (.ref it) 1 >>= _) _ _ s
  refine wpAny_bind (wpAny_field ho hd (x := .int i 0) rfl ?_)
  show wpAny _ _ (seqItems? (.ref t) >>= _) _ _ s
  refine wpAny_bind (wpAny_seqItems hol hdl ?_)
  simp only [Int.toNat_natCast, hx]
  refine wpAny_bind (wpAny_rule (wpAny_bind (wpAny_setField ho hd (by simp) ?_)))
  show wpAny _ _ (newExc (.type "StopIteration") [] >>= _) _ _ _
  refine wpAny_bind ?_
  simp only [newExc, newTuple]
  refine wpAny_bind (wpAny_newObj_type ?_ (by size_fits))
  refine wpAny_bind (m := firstArgMember _ _) (wpAny_of_eq (a := Value.none) (by first | rfl | (simp only [firstArgMember]; rfl)) ?_)
  refine wpAny_newObj_type ?_ (by size_fits)
  simp only [raiseNew]
  refine wpAny_bind (wpAny_handled ?_)
  first | rw [show A.in1.handled = none from hh] | rw [hh]
  refine wpAny_bind (wpAny_pure (wpAny_throw ?_))
  exact hE _ _ (((Heap.SameBut.update ..).extBut.push _).push _) ⟨_, Heap.get?_push_size _ rfl, rfl⟩
end
theorem draws_tup {prog : Program} {w : World} {A : Around} (hh : A.handled = none) (it l : Addr) (hne : l ≠ it) (items : Array Value) :
    Draws prog w A it [it, l] items.size (fun i v => items[i]? = some v) (fun i h => h.IsTupleIter it l i ∧ h.IsTuple l items) where
  live := fun _ _ st => let ⟨o, ho, _⟩ := st.1; ⟨o, ho⟩
  frame := fun _ _ _ st hk => ⟨st.1.at fun o e => hk it (by simp) o e, st.2.at fun o e => hk l (by simp) o e⟩
  item := fun i s Q E hi st hQ => by
    refine nextOf_tup_item st.1 st.2 (x := items[i]) (by simp [hi]) fun h' hit' hs' => ?_
    exact hQ _ h' s.toks (by simp [hi]) ⟨hit', st.2.extBut hs'.extBut hne⟩ hs'
  done := fun s Q E st hE => nextOf_tup_end hh st.1 st.2 (by simp) hE
theorem enum_newT (l : Addr) (items : Array Value) (n : Nat) (dct : Option Addr) (sl : Array (Option Value)) :
    Meets (Builtin.«enumerate.__new__» ⟨[.type "enumerate", .ref l], []⟩) (fun _ R s => s.heap.get? l = some { cls := .type "tuple", dict := dct, data := .seq items n, slots := sl } ∧
      R (.ok (.ret (.ref (s.heap.push { cls := .type "tuple_iterator", data := .fields #[.ref l, .int 0 0] }).objs.size)))
        { s with heap := (s.heap.push { cls := .type "tuple_iterator", data := .fields #[.ref l, .int 0 0] }).push { cls := .type "enumerate", data := .fields #[.none, .bool false, .ref s.heap.objs.size, rawInt 0, .none, .none] } }) :=
  .of_wp fun prog w A R s h => by
    obtain ⟨hp, g, d, tk, os⟩ := s; obtain ⟨hl, h⟩ := h
    have hsub := sub_enumerate
    have hL : Heap.IsTuple (Shared.heap ⟨hp, g, d, tk, os⟩) l items := ⟨_, hl, rfl, n, rfl⟩
    wp_walk using wpAny_loadPart' hl
    refine wpAny_stack_any fun st => wpAny_pure ?_
    split
    · rename_i c _ _ _ _ _
      cases (c == Value.type "enumerate")
      · wp_walk using wpAny_loadPart' hl, wpAny_pyIter_tuple hL
        exact ⟨_, rfl, h⟩
      · wp_walk using wpAny_loadPart' hl, wpAny_pyIter_tuple hL
        exact ⟨_, rfl, h⟩
    · wp_walk using wpAny_loadPart' hl, wpAny_pyIter_tuple hL
      exact ⟨_, rfl, h⟩
section
variable {prog : Program} {w : World} {A : Around} {E : Value → Shared → Prop} {s : Shared}
theorem call_enum_tup {l : Addr} {items : Array Value} {Q : Value → Shared → Prop} (hL : s.heap.IsTuple l items)
    (h : ∀ h', IsEnum h' (s.heap.objs.size + 1) s.heap.objs.size 0 .none → h'.IsTupleIter s.heap.objs.size l 0 → h'.objs.size = s.heap.objs.size + 2 →
      (∀ b o, s.heap.get? b = some o → h'.get? b = some o) → Q (.ref (s.heap.objs.size + 1)) { s with heap := h' }) :
    wpAny (model prog w) A (call (.type "enumerate") [.ref l]) Q E s := by
  obtain ⟨⟨c, dct, dt, sl⟩, hl, hc, n, hd⟩ := hL
  replace hc : c = .type "tuple" := hc
  replace hd : dt = .seq items n := hd
  subst hc hd
  refine callType_new F.called_enumerate (by decide) (F.typeCall_enumerate_1 _) (F.newCall_enumerate_1 _) (fun obj => F.args_object_init_2 obj _) F.entry_enumerate_new (enum_newT l items n dct sl) ⟨hl, ?_⟩
  have hz : (s.heap.push { cls := .type "tuple_iterator", data := .fields #[.ref l, .int 0 0] }).objs.size = s.heap.objs.size + 1 := Heap.size_push ..
  show _ ∧ _
  rw [hz]
  have he : IsEnum ((s.heap.push { cls := .type "tuple_iterator", data := .fields #[.ref l, .int 0 0] }).push
      { cls := .type "enumerate", data := .fields #[.none, .bool false, .ref s.heap.objs.size, rawInt 0, .none, .none] }) (s.heap.objs.size + 1) s.heap.objs.size 0 .none := by
    have := Heap.get?_push_size (s.heap.push { cls := .type "tuple_iterator", data := .fields #[.ref l, .int 0 0] })
      (o := { cls := .type "enumerate", data := .fields #[.none, .bool false, .ref s.heap.objs.size, rawInt 0, .none, .none] }) rfl
    rw [hz] at this; exact this
  refine ⟨⟨_, he, rfl⟩, h _ he ⟨_, Heap.get?_push_of_some _ (Heap.get?_push_size _ rfl), rfl, rfl⟩ (by rw [Heap.size_push, hz]) fun b o x => Heap.get?_push_of_some _ (Heap.get?_push_of_some _ x)⟩
end
end STab
namespace STab
open PySem PyProof.Rows
theorem enum_end {prog : Program} {w : World} {A : Around} {E : Value → Shared → Prop} {s : Shared} {e it t : Addr} {i : Int} {j : Nat} {old : Value} {items : Array Value} {Q : Option Value → Shared → Prop} (hh : A.handled = none) (he : IsEnum s.heap e it i old) (hit : s.heap.IsTupleIter it t j) (ht : s.heap.IsTuple t items) (hx : items[j]? = none)
    (hQ : ∀ h', Heap.ExtBut it s.heap h' → Q none { s with heap := h' }) : wpAny (model prog w) A (pyNext (.ref e)) Q E s := by
  have hT : s.TypeIs (.ref e) "enumerate" := ⟨_, he, rfl⟩
  unfold pyNext
  refine wpAny_bind (wpAny_attempt (wpAny_callSpecial?_slot (name := Str.ofString "__next__") hT F.slot_enumerate_next
    (wpAny_call_entry F.slot_enumerate_next hT F.entry_enumerate_next ?_ (F.args_enumerate_next_1 _))))
  show wpAny _ _ (field (.ref e) 2 >>= _) _ _ _
  refine wpAny_bind (wpAny_field he rfl (x := .ref it) rfl ?_)
  refine wpAny_bind (nextOf_tup_end hh hit ht hx fun h' x he' hx' => ?_)
  obtain ⟨o, ho, hc⟩ := hx'
  refine wpAny_bind (wpAny_isInstance (T := "StopIteration") (b := true) ⟨o, ho, hc⟩ isSubtype_stop ?_)
  exact wpAny_pure (hQ _ he')
end STab
namespace L2
open PySem PySem.Spec PyProof.Rows
theorem two_le : 2 ≤ sizeLine := by decide
section
variable {X : Cx} {pins : List (Addr × Obj)} {σ : St} {H : Hp} {s : Shared}
/-- the iterator's objects have turned, a new object is laid and tracked -/
theorem Inv.turnedNew {fp : List Addr} {T : Addr} {o : HO} {h' : Heap} {t' : Nat} (I : Inv X pins σ H s) (k : ∀ b o, b ∉ fp → s.heap.get? b = some o → h'.get? b = some o) (hf : ∀ b ∈ fp, FpOk X pins H b) (hT : s.heap.objs.size ≤ T)
    (new : ObjOk X.prog X.w (upd H T o) h' T o) : Inv X pins σ (upd H T o) { s with heap := h', toks := t' } := by
  have nT : H T = none := I.hok.fresh hT
  have neT : ∀ b ob, s.heap.get? b = some ob → b ≠ T := fun b ob e z => by
    have := Heap.lt_size e
    rw [z] at this
    exact absurd (Nat.lt_of_lt_of_le this hT) (Nat.lt_irrefl _)
  have up : ∀ b u, H b = some u → upd H T o b = some u := fun b u e => by
    rw [upd_ne (fun z => by rw [z, nT] at e; cases e)]
    exact e
  refine I.step (g' := s.gens) (d' := s.drawn) (ch := fp) (fun b hb => ?_) (fun b ob _ _ hc e _ => k b ob hc e) (fun b ob _ _ hc e _ => ⟨ob.slots, k b ob hc e⟩) (fun b ob _ e n => by rw [upd_ne (neT b ob e)]; exact n)
    (fun b ob hc e => ⟨ob, k b ob hc e⟩) (fun b xs e => up b _ e) (fun b ob u e => up b _ e) (fun b ps e => ⟨#[], by rw [up b _ e]; simp⟩) (fun m hm => ?_) (fun b u e => ?_) I.bare
  · obtain ⟨f0, f1, f2, f3, f4, f5⟩ := hf b hb
    exact ⟨f3, f1, f4, f5⟩
  · obtain ⟨ob, es, ep, ho, r⟩ := hm
    exact ⟨ob, es, ep, k _ ob (fun z => (hf _ z).2.1 rfl) ho, r⟩
  · by_cases hb : b = T
    · subst hb
      rw [upd_same] at e
      cases e
      exact new
    · rw [upd_ne hb] at e
      refine (I.hok b u e).stay (fun c v hc q => k c v (fun z => ?_) q) (fun c q => up c _ q) fun c xs q => up c _ q
      rcases hc with z2 | z2
      · rw [z2] at z
        rw [(hf b z).1] at e
        cases e
      · rw [(hf c z).1] at z2
        cases z2
theorem Inv.turnedL {fp : List Addr} {h' : Heap} {t' : Nat} (I : Inv X pins σ H s) (k : ∀ b o, b ∉ fp → s.heap.get? b = some o → h'.get? b = some o) (hf : ∀ b ∈ fp, FpOk X pins H b) : Inv X pins σ H { s with heap := h', toks := t' } := by
  refine I.step (g' := s.gens) (d' := s.drawn) (ch := fp) (fun b hb => ?_) (fun b ob _ _ hc e _ => k b ob hc e) (fun b ob _ _ hc e _ => ⟨ob.slots, k b ob hc e⟩) (fun _ _ _ _ n => n)
    (fun b ob hc e => ⟨ob, k b ob hc e⟩) (fun _ _ e => e) (fun _ _ _ e => e) (fun b ps e => ⟨#[], by rw [e]; simp⟩) (fun m hm => ?_) (fun b u e => ?_) I.bare
  · obtain ⟨f0, f1, f2, f3, f4, f5⟩ := hf b hb
    exact ⟨f3, f1, f4, f5⟩
  · obtain ⟨ob, es, ep, ho, r⟩ := hm
    exact ⟨ob, es, ep, k _ ob (fun z => (hf _ z).2.1 rfl) ho, r⟩
  · refine (I.hok b u e).stay (fun c v hc q => k c v (fun z => ?_) q) (fun _ q => q) fun _ _ q => q
    rcases hc with z2 | z2
    · rw [z2] at z
      rw [(hf b z).1] at e
      cases e
    · rw [(hf c z).1] at z2
      cases z2
end
/-- enumerate(t), t a tuple: each turn a new tuple (i, x) -/
def Ite (K : PySem.W.Frag) (a : Addr) : It :=
  ⟨fun i H => ∃ xs x, SqT K H a xs ∧ xs[i]? = some x, fun i H v H' => ∃ T x, v = .ref T ∧ H T = none ∧ H' = upd H T (.tup [.int (i : Int), x]) ∧ ∀ xs, SqT K H a xs → xs[i]? = some x, fun i H => ∃ xs, SqT K H a xs ∧ xs.length ≤ i⟩
theorem turn_enum {P : Program} {w : World} {K : PySem.W.Frag} {elts : List Expr} {x1} {tp : Pos} (a it e : Addr) (hei : e ≠ it) : Turn P w K (.Tuple elts x1 tp) (Ite K a) [e, it] e (fun i h => (∃ old, IsEnum h e it (i : Int) old) ∧ h.IsTupleIter it a i) where
  mem := by simp
  obj := fun i h st b hb => by
    obtain ⟨⟨old, he⟩, o, ho, hc, hd⟩ := st
    rcases List.mem_cons.mp hb with z | z
    · subst z
      exact ⟨_, he, fun v q => by cases (show Data.fields _ = Data.cell v from q)⟩
    · rw [List.mem_singleton.mp z]
      exact ⟨o, ho, fun v q => by rw [hd] at q; cases q⟩
  keep := fun i h h' st k => ⟨let ⟨old, he⟩ := st.1; ⟨old, k e (by simp) _ he⟩, st.2.at fun o q => k it (by simp) o q⟩
  item := by
    intro X hP hw hK hc i pins s σ H E I hf st hg
    subst hP hw hK
    obtain ⟨xs, x, hq, hx⟩ := hg
    obtain ⟨its, rv, p, hz⟩ := I.tuple hq
    obtain ⟨u, hu, ru⟩ := rv.get hx
    obtain ⟨⟨old, he⟩, hit⟩ := st
    have ht : s.heap.IsTuple a its.toArray := p
    have hi : i < its.toArray.size := by
      rw [List.size_toArray]
      exact (List.getElem?_eq_some_iff.mp hu).1
    have fe := hf e (by simp)
    have fi := hf it (by simp)
    have lt_e : e < s.heap.objs.size := Heap.lt_size he
    have nat_ : ∀ z, H z = none → z ≠ a → True := fun _ _ _ => trivial
    have at_e : a ≠ e := by
      rintro rfl
      obtain ⟨o, ho, hcl, _⟩ := ht
      rw [he] at ho; cases ho
      exact absurd (show Value.type "enumerate" = Value.type "tuple" from hcl) (by decide)
    have at_i : a ≠ it := by
      rintro rfl
      obtain ⟨o, ho, hcl, _⟩ := ht
      obtain ⟨o', ho', hc', _⟩ := hit
      rw [ho] at ho'; cases ho'
      rw [hcl] at hc'
      exact absurd hc' (by decide)
    have hh1 : X.A.in1.handled = none := I.ok.hd hc
    have D := STab.draws_tup (prog := X.prog) (w := X.w) hh1 it a at_i its.toArray
    refine wpAny_pyNext_enum_itemD D he ⟨hit, ht⟩ hi hei (by simp [hei, Ne.symm at_e]) fun y h1 tk hP ho hs hT hsz hk => ?_
    have ey : y = u := by
      have h2 : its.toArray[i]? = some u := by simpa using hu
      rw [h2] at hP
      exact (Option.some.inj hP).symm
    subst ey
    refine ⟨.ref s.heap.objs.size, rfl, wpAny_letOwnedTupleGo_enum ho fun h2 he2 sb => ?_⟩
    have hT2 : h2.get? s.heap.objs.size = some { cls := .type "tuple", data := .seq #[.int i tk, y] } := (sb.2 _ (Nat.ne_of_gt lt_e)).trans hT
    have I2 : Inv X pins σ (upd H s.heap.objs.size (.tup [.int (i : Int), x])) { s with heap := h2, toks := tk + 1 } := by
      refine I.turnedNew (fp := [e, it]) (fun b ob hb q => ?_) hf (Nat.le_refl _) ⟨two_le, [.int i tk, y], .cons ⟨_, rfl⟩ (.cons ru .nil), ⟨_, hT2, rfl, _, rfl⟩⟩
      have hb1 : b ≠ e := fun z => hb (by simp [z])
      have hb2 : b ≠ it := fun z => hb (by simp [z])
      exact (sb.2 b hb1).trans (hk b ob hb1 hb2 q)
    refine ⟨.ref s.heap.objs.size, _, I2, rfl, ⟨s.heap.objs.size, x, rfl, I.hok.fresh (Nat.le_refl _), rfl, fun ys hy => by rw [I.tuple_inj hy hq]; exact hx⟩, ⟨⟨_, by simpa using he2⟩, hs.1.at fun o q => (sb.2 it (Ne.symm hei)).trans q⟩, fun b hb => ?_⟩
    rw [upd_ne]
    · exact (hf b hb).1
    · rcases List.mem_cons.mp hb with z | z
      · rw [z]; exact Nat.ne_of_lt lt_e
      · rw [List.mem_singleton.mp z]
        obtain ⟨o, ho, _⟩ := hit
        exact Nat.ne_of_lt (Heap.lt_size ho)
  done := by
    intro X hP hw hK hc i pins s σ H E I hf st hg
    subst hP hw hK
    obtain ⟨xs, hq, hx⟩ := hg
    obtain ⟨its, rv, p, hz⟩ := I.tuple hq
    obtain ⟨⟨old, he⟩, hit⟩ := st
    have ht : s.heap.IsTuple a its.toArray := p
    have at_i : a ≠ it := by
      rintro rfl
      obtain ⟨o, ho, hcl, _⟩ := ht
      obtain ⟨o', ho', hc', _⟩ := hit
      rw [ho] at ho'; cases ho'
      rw [hcl] at hc'
      exact absurd hc' (by decide)
    have hl := rv.length
    refine STab.enum_end (I.ok.hd hc) he hit ht (by simp; omega) fun h' eb => ⟨rfl, I.turnedL (t' := s.toks) (fp := [e, it]) (fun b o hb q => eb b o (fun z => hb (by simp [z])) q) hf⟩
  self := fun _ _ _ _ _ st h => let ⟨_, he⟩ := st.1; wpAny_pyIter_enum he h
section
variable {X : Cx}
def iEnum (K : PySem.W.Frag) (tl : TE) : TI := fun σ H R => tl σ H fun x H1 => ∃ a, x = .ref a ∧ (∃ xs, SqT K H1 a xs) ∧ R (Ite K a) H1
theorem pi_enum {elts : List Expr} {x1} {tp : Pos} {l : Expr} {tl : TE} {p pos : Pos} (hg : Gl X "enumerate") (hm : X.mg "enumerate" = none) (hl : PE X l tl) (hs : starEach [l] X.env = [(false, eval l X.env)] := by rfl) :
    PI X (.Tuple elts x1 tp) (.Call (.Name "enumerate" p) [l] [] pos) (iEnum X.K tl) := by
  intro pins s σ H R I h
  refine Call_ (ld_blt I hg hm boot_enumerate (PyProof.Rows.callWith_type1 (thn (pa_cons hl pa_nil hs pos pins s σ H (fun vs H1 => match vs with | [x] => ∃ a, x = .ref a ∧ (∃ xs, SqT X.K H1 a xs) ∧ R (Ite X.K a) H1 | _ => False) I h) fun us s1 ⟨vs, H1, I1, r1, q⟩ => ?_) hs rfl))
  rcases vs with _ | ⟨x, _ | ⟨y, vs⟩⟩
  · exact False.elim q
  · obtain ⟨a, e2, ⟨xs, hq⟩, q⟩ := q
    subst e2
    obtain ⟨u, rfl, ru⟩ := vals1 r1
    cases ru
    obtain ⟨its, rv, pt, hz⟩ := I1.tuple hq
    refine STab.call_enum_tup (show s1.heap.IsTuple a its.toArray from pt) fun h' he hit hsz k => ?_
    have I2 : Inv X pins σ H1 { s1 with heap := h' } := I1.kept (t' := s1.toks) k
    refine wpAny_pyIter_enum (s := { s1 with heap := h' }) he ?_
    refine ⟨s1.heap.objs.size + 1, [s1.heap.objs.size + 1, s1.heap.objs.size], _, _, H1, rfl, I2, turn_enum a s1.heap.objs.size (s1.heap.objs.size + 1) (Nat.succ_ne_self _), ⟨⟨_, he⟩, hit⟩, fun b hb => ?_, q⟩
    have hb' : s1.heap.objs.size ≤ b := by
      rcases List.mem_cons.mp hb with z | z
      · rw [z]; exact Nat.le_succ _
      · rw [List.mem_singleton.mp z]; exact Nat.le_refl _
    exact I1.fpOk hb' (I1.hok.fresh hb')
  · exact False.elim q
end
theorem for_enum {K : PySem.W.Frag} {a : Addr} {xs : List V} {g : TG} {tb : TS} {D : Ends} {σ : St} {H : Hp} (Pv : Nat → St → Hp → Prop) (h0 : Pv 0 σ H) (hl : ∀ i σ H, i ≤ xs.length → Pv i σ H → SqT K H a xs)
    (hs : ∀ i x σ H T, xs[i]? = some x → Pv i σ H → H T = none → g (.ref T) σ (upd H T (.tup [.int (i : Int), x])) fun σ2 H2 => tb { D with nx := Pv (i + 1), ct := Pv (i + 1), bk := D.nx } σ2 H2) (hd : ∀ σ H, Pv xs.length σ H → D.nx σ H) :
    ∃ W : Nat → Nat → St → Hp → Prop, (∃ m, W 0 m σ H) ∧ ∀ i m σ H, W i m σ H →
      ((Ite K a).stop i H ∧ D.nx σ H) ∨ ((Ite K a).go i H ∧ ∃ N : St → Hp → Prop, (∀ σ' H', N σ' H' → ∃ m', m' < m ∧ W (i + 1) m' σ' H') ∧ ∀ x H', (Ite K a).yld i H x H' → g x σ H' fun σ2 H2 => tb { D with nx := N, ct := N, bk := D.nx } σ2 H2) := by
  refine ⟨fun i m σ H => m = xs.length - i ∧ i ≤ xs.length ∧ Pv i σ H, ⟨xs.length, by simp, Nat.zero_le _, h0⟩, ?_⟩
  rintro i m σ H ⟨rfl, hi, p⟩
  have q := hl i σ H hi p
  by_cases hlt : i < xs.length
  · refine .inr ⟨⟨xs, xs[i], q, by simp [hlt]⟩, Pv (i + 1), fun σ' H' p' => ⟨xs.length - (i + 1), by omega, rfl, hlt, p'⟩, fun x H' y => ?_⟩
    obtain ⟨T, z, rfl, hT, rfl, y⟩ := y
    exact hs i z σ _ T (y xs q) p hT
  · have e : i = xs.length := by omega
    subst e
    exact .inl ⟨⟨xs, q, Nat.le_refl _⟩, hd σ H p⟩
section
variable {X : Cx}
/-- sum(xs), a list of ints -/
theorem call_sum (hc : X.calm = true) : CallR X (.builtin "sum") (fun xs H Q => ∃ (p : Addr) (ns : List Int), xs = [.ref p] ∧ SqL X.K H p (ns.map V.int) ∧ Q (.int ns.sum) H) := by
  intro pins s σ H xs us Q I r h
  obtain ⟨p, ns, rfl, hq, q⟩ := h
  obtain ⟨u, rfl, ru⟩ := vals1 r
  cases ru
  obtain ⟨its, rv, pl, hz⟩ := I.list hq
  have hi : IntsAre its ns := intsAre_of rv
  obtain ⟨xs, ex⟩ := hi.allInts.items
  have hl := pl.isList
  rw [ex] at hl
  refine sum_intListG (I.ok.hd hc) hl fun h' tk t' k => ⟨.int ns.sum, H, I.kept k, ⟨t', ?_⟩, q⟩
  have e1 : xs.toList.map (·.1) = ns := by rw [← nums_intItems, ← ex, ← hi.numsOf]
  rw [preSum_eq, List.take_of_length_le (by simp), e1]
/-- xs[i], by values -/
theorem get_list : PGet X (rIxL X.K) := by
  intro pins s σ H o i ov iv Q I ro ri h
  obtain ⟨p, xs, k, v, rfl, rfl, hq, he, q⟩ := h
  cases ro
  obtain ⟨t, rfl⟩ := ri
  obtain ⟨its, r, pl, hz⟩ := I.list hq
  obtain ⟨j, h1, h2, h3, h4, h5⟩ := atI_get he
  obtain ⟨w, ew, rw'⟩ := r.get h2
  have hl := r.length
  have hn := line63
  have fin : EP X pins σ Q w s := ⟨v, H, I, rw', q⟩
  by_cases h0 : 0 ≤ k
  · have hj : k.toNat = j := by
      rw [seqIndex_of h0 h5] at h1
      exact Option.some.inj h1
    exact wpAny_getItem_list pl.isList h0 (by omega) (by rw [hj]; simpa using ew) fin
  · have hj : (k + (its.toArray.size : Int)).toNat = j := by
      rw [seqIndex_neg (by omega) h4] at h1
      rw [List.size_toArray, ← hl]
      exact Option.some.inj h1
    exact wpAny_getItem_list_neg pl.isList (by omega) (by rw [List.size_toArray] <;> omega) (by omega) (by rw [hj]; simpa using ew) fin
end
end L2
namespace My
open PySem L2

theorem mod_lo (x : Int) {n : Int} (h : 0 < n) : 0 ≤ x % n := Int.emod_nonneg x (by omega)
theorem mod_hi (x : Int) {n : Int} (h : 0 < n) : x % n < n := Int.emod_lt_of_pos x h
theorem mod_zero_of {x n : Int} (k : Int) (h : x = n * k) : x % n = 0 := by rw [h]; exact Int.mul_emod_right n k
theorem mod_split (x n : Int) : x = n * (x / n) + x % n := (Int.mul_ediv_add_emod x n).symm
theorem mod_of {x n r : Int} (k : Int) (h : x = n * k + r) (h0 : 0 ≤ r) (h1 : r < n) : x % n = r := by
  rw [h, Int.add_comm, Int.add_mul_emod_self_left]; exact Int.emod_eq_of_lt h0 h1
theorem up_leads (a b n : Int) : (a + (b - a) % n - b) % n = 0 := by
  refine mod_zero_of (-((b - a) / n)) ?_
  have := mod_split (b - a) n
  rw [Int.mul_neg]; omega
theorem back_of (d : Int) {n : Int} (h : 0 < n) : (-d) % n = if d % n = 0 then 0 else n - d % n := by
  have e := mod_split d n
  have l := mod_lo d h
  have u := mod_hi d h
  split
  · refine mod_zero_of (-(d / n)) ?_
    rw [Int.mul_neg]; omega
  · refine mod_of (-(d / n) - 1) ?_ (by omega) (by omega)
    rw [Int.mul_sub, Int.mul_neg, Int.mul_one]; omega
theorem back_of' (a b : Int) {n : Int} (h : 0 < n) : (a - b) % n = if (b - a) % n = 0 then 0 else n - (b - a) % n := by
  have e : a - b = -(b - a) := by omega
  rw [e]; exact back_of _ h
theorem shift_leads (a b n : Int) : (a + ((b - a) % n - n) - b) % n = 0 := by
  refine mod_zero_of (-((b - a) / n) - 1) ?_
  have := mod_split (b - a) n
  rw [Int.mul_sub, Int.mul_neg, Int.mul_one]; omega

theorem emod_eq {x y n : Int} (k : Int) (h : x - y = n * k) : x % n = y % n := by
  have e : x = y + n * k := by omega
  rw [e, Int.add_mul_emod_self_left]
def kS (t : Bool) : Str := match t with
  | true => "turn"
  | false => "mirror"
theorem kS_eq (t u : Bool) : decide (V.str (kS t) = V.str (kS u)) = (t == u) := by
  cases t <;> cases u <;> decide +kernel
theorem kS_turn (t : Bool) : decide (V.str (kS t) = V.str "turn") = t := by
  cases t <;> decide +kernel
theorem kS_mirror (t : Bool) : decide (V.str (kS t) = V.str "mirror") = !t := by
  cases t <;> decide +kernel
abbrev chV (t : Bool) (m : Int) : List V := [V.str (kS t), V.int m]
/-- what a change makes of a tone -/
def dn (n : Int) (t : Bool) (m x : Int) : Int := match t with
  | true => (x + m) % n
  | false => (m - x) % n
/-- the number of the change that leads back -/
def bk (n : Int) (t : Bool) (m : Int) : Int := match t with
  | true => (-m) % n
  | false => m % n
theorem dn_lo {n : Int} (h : 0 < n) (t : Bool) (m x : Int) : 0 ≤ dn n t m x := by
  cases t <;> exact mod_lo _ h
theorem dn_hi {n : Int} (h : 0 < n) (t : Bool) (m x : Int) : dn n t m x < n := by
  cases t <;> exact mod_hi _ h
theorem bk_lo {n : Int} (h : 0 < n) (t : Bool) (m : Int) : 0 ≤ bk n t m := by
  cases t <;> exact mod_lo _ h
theorem bk_hi {n : Int} (h : 0 < n) (t : Bool) (m : Int) : bk n t m < n := by
  cases t <;> exact mod_hi _ h
theorem dn_then (n : Int) (t u : Bool) (m k x : Int) : dn n (t == u) (dn n u k m) x = dn n u k (dn n t m x) := by
  cases t <;> cases u
  · show (x + (k - m) % n) % n = (k - (m - x) % n) % n
    have a := mod_split (k - m) n
    have b := mod_split (m - x) n
    refine emod_eq (-((k - m) / n) - (m - x) / n) ?_
    rw [Int.mul_sub, Int.mul_neg]; omega
  · show ((m + k) % n - x) % n = ((m - x) % n + k) % n
    have a := mod_split (m + k) n
    have b := mod_split (m - x) n
    refine emod_eq ((m - x) / n - (m + k) / n) ?_
    rw [Int.mul_sub]; omega
  · show ((k - m) % n - x) % n = (k - (x + m) % n) % n
    have a := mod_split (k - m) n
    have b := mod_split (x + m) n
    refine emod_eq (-((k - m) / n) - (x + m) / n) ?_
    rw [Int.mul_sub, Int.mul_neg]; omega
  · show (x + (m + k) % n) % n = ((x + m) % n + k) % n
    have a := mod_split (m + k) n
    have b := mod_split (x + m) n
    refine emod_eq ((x + m) / n - (m + k) / n) ?_
    rw [Int.mul_sub]; omega
theorem dn_back {n : Int} (t : Bool) (m : Int) {x : Int} (h0 : 0 ≤ x) (h1 : x < n) : dn n t (bk n t m) (dn n t m x) = x := by
  cases t
  · show (m % n - (m - x) % n) % n = x
    have a := mod_split m n
    have b := mod_split (m - x) n
    rw [emod_eq (y := x) ((m - x) / n - m / n) (by rw [Int.mul_sub]; omega)]
    exact Int.emod_eq_of_lt h0 h1
  · show ((x + m) % n + (-m) % n) % n = x
    have a := mod_split (-m) n
    have b := mod_split (x + m) n
    rw [emod_eq (y := x) (-((x + m) / n) - (-m) / n) (by rw [Int.mul_sub, Int.mul_neg]; omega)]
    exact Int.emod_eq_of_lt h0 h1
theorem dn_zero (n : Int) (t : Bool) (m : Int) : dn n t (bk n t m) m = 0 ∧ dn n t m (bk n t m) = 0 := by
  cases t
  · have a := mod_split m n
    constructor
    · show (m % n - m) % n = 0
      exact mod_zero_of (-(m / n)) (by rw [Int.mul_neg]; omega)
    · show (m - m % n) % n = 0
      exact mod_zero_of (m / n) (by omega)
  · have a := mod_split (-m) n
    constructor
    · show (m + (-m) % n) % n = 0
      exact mod_zero_of (-((-m) / n)) (by rw [Int.mul_neg]; omega)
    · show ((-m) % n + m) % n = 0
      exact mod_zero_of (-((-m) / n)) (by rw [Int.mul_neg]; omega)
theorem two_fit : 2 ≤ sizeLine := by decide

/-- a value that is the change c -/
def ChgR (H : Hp) (v : V) (c : Bool × Int) : Prop := ∃ p, v = .ref p ∧ H p = some (.tup (chV c.1 c.2))
theorem ChgR.mono {H1 H2 : Hp} {v : V} {c : Bool × Int} (t : TupKeep H1 H2) (r : ChgR H1 v c) : ChgR H2 v c := let ⟨p, e, h⟩ := r; ⟨p, e, t _ _ h⟩
def rng (n : Int) : List Int := (List.range n.toNat).map fun (i : Nat) => 0 + (i : Int)
theorem rng_len (n : Int) : (rng n).length = n.toNat := by simp [rng]
theorem rng_get (n : Int) {i : Nat} (h : i < n.toNat) : (rng n)[i]? = some (0 + (i : Int)) := by
  unfold rng
  rw [List.getElem?_map, List.getElem?_range h]
  rfl
/-- all changes, the turns ahead of the mirrors -/
def allC (n : Int) : List (Bool × Int) := (rng n).map (fun k => (true, k)) ++ (rng n).map (fun k => (false, k))
theorem allC_len (n : Int) : (allC n).length = 2 * n.toNat := by
  unfold allC
  rw [List.length_append, List.length_map, List.length_map, rng_len]
  omega
theorem allC_turn (n : Int) {i : Nat} (h : i < n.toNat) : (allC n)[i]? = some (true, 0 + (i : Int)) := by
  unfold allC
  rw [List.getElem?_append_left (by rw [List.length_map, rng_len]; exact h), List.getElem?_map, rng_get n h]
  rfl
theorem allC_mirror (n : Int) {i : Nat} (h : i < n.toNat) : (allC n)[n.toNat + i]? = some (false, 0 + (i : Int)) := by
  unfold allC
  rw [List.getElem?_append_right (by rw [List.length_map, rng_len]; omega), List.length_map, rng_len, List.getElem?_map, show n.toNat + i - n.toNat = i by omega, rng_get n h]
  rfl
theorem filter_all {α : Type} (l : List α) : l.filter (fun _ => true) = l := by simp

/-! ### crowds as lists of ints -/
theorem rngL0 (n : Int) : rngL 0 n = rng n := by simp [rngL, rng]
theorem rng_mem {n x : Int} : x ∈ rng n ↔ 0 ≤ x ∧ x < n := by
  unfold rng
  rw [List.mem_map]
  constructor
  · rintro ⟨i, hi, rfl⟩
    have := List.mem_range.mp hi
    omega
  · rintro ⟨h0, h1⟩
    exact ⟨x.toNat, List.mem_range.mpr (by omega), by omega⟩
theorem pw_range (n : Nat) : ((List.range n).map fun (i : Nat) => (0 : Int) + (i : Int)).Pairwise (· < ·) := by
  rw [List.pairwise_map]
  exact List.Pairwise.imp (fun h => by omega) List.pairwise_lt_range
theorem rng_pw (n : Int) : (rng n).Pairwise (· < ·) := pw_range _
/-- two rising lists with the same items are one -/
theorem srt_ext : ∀ {a b : List Int}, a.Pairwise (· < ·) → b.Pairwise (· < ·) → (∀ x, x ∈ a ↔ x ∈ b) → a = b
  | [], [], _, _, _ => rfl
  | [], y :: b, _, _, h => by have := (h y).mpr (List.mem_cons_self ..); cases this
  | x :: a, [], _, _, h => by have := (h x).mp (List.mem_cons_self ..); cases this
  | x :: a, y :: b, pa, pb, h => by
    rw [List.pairwise_cons] at pa pb
    have e : x = y := by
      rcases List.mem_cons.mp ((h x).mp (List.mem_cons_self ..)) with e | e
      · exact e
      · rcases List.mem_cons.mp ((h y).mpr (List.mem_cons_self ..)) with e2 | e2
        · exact e2.symm
        · have := pb.1 x e
          have := pa.1 y e2
          omega
    subst e
    rw [srt_ext pa.2 pb.2 fun z => ?_]
    constructor
    · intro hz
      rcases List.mem_cons.mp ((h z).mp (List.mem_cons_of_mem _ hz)) with e | e
      · subst e
        have := pa.1 z hz
        omega
      · exact e
    · intro hz
      rcases List.mem_cons.mp ((h z).mpr (List.mem_cons_of_mem _ hz)) with e | e
      · subst e
        have := pb.1 z hz
        omega
      · exact e
theorem lt_of_le_nodup : ∀ {a : List Int}, a.Pairwise (· ≤ ·) → a.Nodup → a.Pairwise (· < ·)
  | [], _, _ => .nil
  | x :: a, h, d => by
    rw [List.pairwise_cons] at h
    rw [List.nodup_cons] at d
    refine List.Pairwise.cons (fun y hy => ?_) (lt_of_le_nodup h.2 d.2)
    have := h.1 y hy
    have : x ≠ y := fun e => d.1 (by rw [e]; exact hy)
    omega
theorem nodup_len : ∀ {a b : List Int}, a.Nodup → (∀ x ∈ a, x ∈ b) → a.length ≤ b.length
  | [], _, _, _ => Nat.zero_le _
  | x :: a, b, d, h => by
    rw [List.nodup_cons] at d
    have hx := h x (List.mem_cons_self ..)
    have ih : a.length ≤ (b.erase x).length := nodup_len d.2 fun y hy => by
      have hy' := h y (List.mem_cons_of_mem _ hy)
      exact (List.mem_erase_of_ne (fun e => d.1 (by rw [← e]; exact hy))).mpr hy'
    rw [List.length_erase_of_mem hx] at ih
    have := List.length_pos_of_mem hx
    rw [List.length_cons]
    omega
theorem erase_map {α β : Type} (f : α → β) : ∀ (l : List α) (i : Nat), (l.map f).eraseIdx i = (l.eraseIdx i).map f
  | [], _ => rfl
  | _ :: _, 0 => rfl
  | x :: l, i + 1 => by
    show f x :: (l.map f).eraseIdx i = f x :: (l.eraseIdx i).map f
    rw [erase_map f l i]
theorem seq_ix {j : Int} {n : Nat} (h0 : 0 ≤ j) (h1 : j < n) : seqIndex? j n = some j.toNat := by
  unfold seqIndex?
  have e : ¬ j < 0 := by omega
  simp only [e, if_false]
  rw [if_pos (by rw [decide_eq_true h0, decide_eq_true h1]; rfl)]
theorem filt1 {α : Type} {p : α → Bool} {x : α} (h : p x = true) : [x].filter p = [x] := by rw [List.filter_cons_of_pos h]; rfl
theorem filt0 {α : Type} {p : α → Bool} {x : α} (h : p x = false) : [x].filter p = [] := by rw [List.filter_cons_of_neg (by rw [h]; exact Bool.false_ne_true)]; rfl
/-- the crowd of a test -/
def cw (n : Int) (p : Int → Bool) : List Int := (rng n).filter p
theorem cw_pw (n : Int) (p : Int → Bool) : (cw n p).Pairwise (· < ·) := (rng_pw n).filter _
theorem cw_mem {n x : Int} {p : Int → Bool} : x ∈ cw n p ↔ (0 ≤ x ∧ x < n) ∧ p x = true := by
  unfold cw
  rw [List.mem_filter, rng_mem]
theorem cw_len (n : Int) (p : Int → Bool) : (cw n p).length ≤ n.toNat := by
  have := List.length_filter_le p (rng n)
  rw [rng_len] at this
  exact this
theorem cw_congr {n : Int} {p q : Int → Bool} (h : ∀ x, 0 ≤ x → x < n → p x = q x) : cw n p = cw n q :=
  List.filter_congr fun x hx => by
    have := rng_mem.mp hx
    exact h x this.1 this.2
theorem cw_common (n : Int) (f g : Int → Bool) : (cw n f).filter (fun y => decide (y ∈ cw n g)) = cw n fun y => decide (y ∈ cw n f) && decide (y ∈ cw n g) :=
  srt_ext ((cw_pw n f).filter _) (cw_pw _ _) fun x => by
    simp only [List.mem_filter, cw_mem, Bool.and_eq_true, decide_eq_true_eq]
    exact ⟨fun ⟨⟨a, b⟩, c⟩ => ⟨a, ⟨a, b⟩, c⟩, fun ⟨_, b, c⟩ => ⟨b, c⟩⟩
/-- a rising list of tones is a crowd -/
theorem cw_of {n : Int} {xs : List Int} (h : xs.Pairwise (· < ·)) (hm : ∀ x ∈ xs, 0 ≤ x ∧ x < n) : xs = cw n fun x => decide (x ∈ xs) :=
  srt_ext h (cw_pw _ _) fun x => by
    rw [cw_mem]
    simp only [decide_eq_true_eq]
    exact ⟨fun e => ⟨hm x e, e⟩, fun e => e.2⟩
theorem inV_int (x : Int) (xs : List Int) : inV (V.int x) (xs.map V.int) = decide (x ∈ xs) := by
  unfold inV
  rw [List.any_map, Bool.eq_iff_iff]
  simp only [List.any_eq_true, Function.comp, decide_eq_true_eq]
  constructor
  · rintro ⟨y, hy, e⟩
    have : y = x := by simpa [eqV] using e
    rw [← this]; exact hy
  · intro h
    exact ⟨x, h, by simp [eqV]⟩
theorem flat_ints (xs : List Int) : (xs.map V.int).all flatV = true := by
  rw [List.all_map, List.all_eq_true]
  intro x _
  rfl
theorem plain_ints (xs : List Int) : (xs.map V.int).all plainV = true := by
  rw [List.all_map, List.all_eq_true]
  intro x _
  rfl
theorem vints_inj : ∀ {xs ys : List Int}, xs.map V.int = ys.map V.int → xs = ys
  | [], [], _ => rfl
  | [], _ :: _, h => by cases h
  | _ :: _, [], h => by cases h
  | x :: xs, y :: ys, h => by
    rw [List.map_cons, List.map_cons, List.cons.injEq] at h
    rw [V.int.inj h.1, vints_inj h.2]
theorem dec_ints (xs ys : List Int) : decide (xs.map V.int = ys.map V.int) = decide (xs = ys) := by
  rw [Bool.eq_iff_iff]
  simp only [decide_eq_true_eq]
  exact ⟨vints_inj, fun e => by rw [e]⟩
theorem fit1000 {k : Nat} (h : k ≤ 1000) : k ≤ sizeLine := Nat.le_trans h (by decide)
theorem fit999 {k : Nat} (h : k ≤ 999) : k < sizeLine := Nat.lt_of_le_of_lt h (by decide)
/-- the image of a crowd by a change -/
def img (n : Int) (t : Bool) (m : Int) (cs : List Int) : List Int := cw n fun y => decide (y ∈ cs.map (dn n t m))
theorem at_ints {xs : List Int} {i : Nat} {x : Int} (h : xs[i]? = some x) : atI (xs.map V.int) (0 + (i : Int)) = some (.int x) := by
  rw [Int.zero_add]
  exact atI_nat (by rw [List.getElem?_map, h]; rfl)
/-- sorted(set(ns)) -/
theorem set_sorted {ns ls : List Int} (pm : ls.Perm (ns.foldl STab.addI [])) (pw : ls.Pairwise (· ≤ ·)) {n : Int} (hb : ∀ x ∈ ns, 0 ≤ x ∧ x < n) : ls = cw n fun x => decide (x ∈ ns) := by
  have nd : ls.Nodup := pm.nodup_iff.mpr (STab.nodup_adds List.nodup_nil)
  refine srt_ext (lt_of_le_nodup pw nd) (cw_pw _ _) fun x => ?_
  rw [cw_mem, pm.mem_iff, STab.mem_adds]
  simp only [decide_eq_true_eq]
  constructor
  · rintro (h | h)
    · exact ⟨hb x h, h⟩
    · cases h
  · exact fun h => .inl h.2
theorem set_len (ns : List Int) : (ns.foldl STab.addI []).length ≤ ns.length := by
  have := STab.len_adds ns []
  simpa using this
theorem dn_inj {n : Int} (t : Bool) (m : Int) {x y : Int} (hx : 0 ≤ x ∧ x < n) (hy : 0 ≤ y ∧ y < n) (e : dn n t m x = dn n t m y) : x = y := by
  rw [← dn_back t m hx.1 hx.2, ← dn_back t m hy.1 hy.2, e]
/-- a rising list of tones -/
def Tones (n : Int) (cs : List Int) : Prop := cs.Pairwise (· < ·) ∧ ∀ x ∈ cs, 0 ≤ x ∧ x < n
theorem cw_tones (n : Int) (f : Int → Bool) : Tones n (cw n f) := ⟨cw_pw n f, fun _ hx => (cw_mem.mp hx).1⟩
theorem Tones.cw {n : Int} {cs : List Int} (h : Tones n cs) : cs = cw n fun x => decide (x ∈ cs) := cw_of h.1 h.2
theorem Tones.len {n : Int} {cs : List Int} (h : Tones n cs) : cs.length ≤ n.toNat := by
  rw [h.cw]; exact cw_len _ _
theorem Tones.ext {n : Int} {cs ds : List Int} (h : Tones n cs) (k : Tones n ds) (e : ∀ x, x ∈ cs ↔ x ∈ ds) : cs = ds := srt_ext h.1 k.1 e
theorem img_tones (n : Int) (t : Bool) (m : Int) (cs : List Int) : Tones n (img n t m cs) := cw_tones _ _
theorem img_mem {n : Int} (h : 0 < n) {t : Bool} {m : Int} {cs : List Int} {y : Int} : y ∈ img n t m cs ↔ ∃ x, x ∈ cs ∧ dn n t m x = y := by
  unfold img
  rw [cw_mem]
  simp only [decide_eq_true_eq, List.mem_map]
  constructor
  · exact fun z => z.2
  · rintro ⟨x, hx, rfl⟩
    exact ⟨⟨dn_lo h _ _ _, dn_hi h _ _ _⟩, x, hx, rfl⟩
theorem img_nodup {n : Int} (t : Bool) (m : Int) {cs : List Int} (h : Tones n cs) : (cs.map (dn n t m)).Nodup := by
  unfold List.Nodup
  rw [List.pairwise_map]
  exact h.1.imp_of_mem fun ha hb hlt e => by
    have := dn_inj t m (h.2 _ ha) (h.2 _ hb) e
    omega
/-- sorted of the changed tones -/
theorem img_sorted {n : Int} (hn : 0 < n) {t : Bool} {m : Int} {cs ls : List Int} (h : Tones n cs) (pm : ls.Perm (cs.map (dn n t m))) (pw : ls.Pairwise (· ≤ ·)) : ls = img n t m cs := by
  refine srt_ext (lt_of_le_nodup pw (pm.nodup_iff.mpr (img_nodup t m h))) (cw_pw _ _) fun x => ?_
  rw [pm.mem_iff]
  show x ∈ cs.map (dn n t m) ↔ x ∈ img n t m cs
  rw [img_mem hn, List.mem_map]
theorem img_len {n : Int} (hn : 0 < n) (t : Bool) (m : Int) {cs : List Int} (h : Tones n cs) : (img n t m cs).length = cs.length := by
  have nd := img_nodup t m h
  have a : (img n t m cs).length ≤ (cs.map (dn n t m)).length := by
    refine nodup_len ((cw_pw _ _).imp fun h => Int.ne_of_lt h) fun x hx => ?_
    rw [List.mem_map]
    exact (img_mem hn).mp hx
  have b : (cs.map (dn n t m)).length ≤ (img n t m cs).length := by
    refine nodup_len nd fun x hx => ?_
    rw [List.mem_map] at hx
    exact (img_mem hn).mpr hx
  rw [List.length_map] at a b
  omega
theorem set_small {n : Int} (h24 : n ≤ 24) {ns : List Int} (hb : ∀ x ∈ ns, 0 ≤ x ∧ x < n) : (ns.foldl STab.addI []).length < 64 := by
  have nd : (ns.foldl STab.addI []).Nodup := STab.nodup_adds List.nodup_nil
  have sub : (ns.foldl STab.addI []).length ≤ (rng n).length := by
    refine nodup_len nd fun x hx => ?_
    rw [STab.mem_adds] at hx
    rcases hx with hx | hx
    · exact rng_mem.mpr (hb x hx)
    · cases hx
  rw [rng_len] at sub
  omega
theorem chV_inj {t t' : Bool} {m m' : Int} (h : chV t m = chV t' m') : t = t' ∧ m = m' := by
  have h1 : V.str (kS t) = V.str (kS t') := (List.cons.inj h).1
  have h2 : V.int m = V.int m' := (List.cons.inj (List.cons.inj h).2).1
  refine ⟨?_, V.int.inj h2⟩
  have := kS_eq t t'
  rw [decide_eq_true h1] at this
  exact eq_of_beq this.symm
/-- the ways from a crowd to another -/
def wys (n : Int) (cs ds : List Int) : List (Bool × Int) := (allC n).filter fun c => decide (img n c.1 c.2 cs = ds)
end My
namespace L2
open PySem
/-- a comprehension of ints -/
theorem comp_int {β : Type} {js : List Nat} {tc : TT} {te : TE} {σ : St} {H : Hp} {Fin : Addr → Hp → Prop} {J : It} (bs : List β) (val : β → V) (p : β → Bool) (f : β → Int)
    (hJ : ∀ H', Same H H' → (∀ i b, bs[i]? = some b → J.go i H' ∧ ∀ v H2, J.yld i H' v H2 → v = val b ∧ H2 = H') ∧ J.stop bs.length H')
    (ht : ∀ b H', b ∈ bs → Same H H' → ∀ Q2 : Bool → Hp → Prop, (∀ H3, Same H' H3 → Q2 (p b) H3) → tc (blkSt js σ (some (val b))) H' Q2)
    (he : ∀ b H', b ∈ bs → p b = true → Same H H' → ∀ Q2 : VK, (∀ H4, Same H' H4 → Q2 (.int (f b)) H4) → te (blkSt js σ (some (val b))) H' Q2)
    (hn : bs.length ≤ sizeLine)
    (hd : ∀ D H', H D = none → Same H H' → H' D = some (.lst (((bs.filter p).map f).map V.int)) → Fin D H') : CompBy js tc te σ J H Fin :=
  comp_grow bs val p f (fun _ v c => v = .int c) (fun _ _ _ _ _ r => r) hJ ht (fun b H' hb hp s Q2 h => he b H' hb hp s Q2 fun H4 s4 => h _ H4 s4 rfl) hn
    fun D ws H' h0 s hL pr => hd D H' h0 s (by rw [hL, prd_map pr])
end L2
namespace My
open PySem L2
/-! ### counts of distances and of sums -/
def dist (n a b : Int) : Int := if (a - b) % n < (b - a) % n then (a - b) % n else (b - a) % n
theorem dist_comm (n a b : Int) : dist n a b = dist n b a := by
  unfold dist
  split <;> split <;> omega
/-- the distances that the program tells, in its order -/
def dists (n : Int) (cs : List Int) : List Int := (List.range cs.length).flatMap fun i => (cs.take i).map fun o => dist n (cs.getD i 0) o
/-- the distances of all pairs -/
def prs (n : Int) : List Int → List Int
  | [] => []
  | x :: cs => cs.map (dist n x) ++ prs n cs
theorem perm_heads {α β : Type} (g : α → β) (f : α → List β) : ∀ l : List α, (l.flatMap fun i => g i :: f i).Perm (l.map g ++ l.flatMap f)
  | [] => List.Perm.refl _
  | x :: l => by
    rw [List.flatMap_cons, List.map_cons, List.flatMap_cons]
    show (g x :: (f x ++ l.flatMap fun i => g i :: f i)).Perm (g x :: (l.map g ++ (f x ++ l.flatMap f)))
    refine List.Perm.cons _ ?_
    refine (List.Perm.append_left _ (perm_heads g f l)).trans ?_
    rw [← List.append_assoc, ← List.append_assoc]
    exact List.Perm.append_right _ List.perm_append_comm
theorem map_getD (f : Int → Int) (cs : List Int) : ((List.range cs.length).map fun i => f (cs.getD i 0)) = cs.map f := by
  refine List.ext_getElem (by simp) fun i h1 h2 => ?_
  have hi : i < cs.length := by simpa using h2
  simp [hi]
theorem dists_perm (n : Int) : ∀ cs : List Int, (dists n cs).Perm (prs n cs)
  | [] => List.Perm.refl _
  | x :: cs => by
    have e : dists n (x :: cs) = (List.range cs.length).flatMap fun i => dist n (cs.getD i 0) x :: (cs.take i).map fun o => dist n (cs.getD i 0) o := by
      unfold dists
      rw [List.length_cons, List.range_succ_eq_map, List.flatMap_cons, List.flatMap_map]
      rfl
    rw [e]
    refine (perm_heads _ _ _).trans ?_
    rw [map_getD (fun y => dist n y x) cs]
    have e2 : (cs.map fun y => dist n y x) = cs.map (dist n x) := List.map_congr_left fun y _ => dist_comm n y x
    rw [e2]
    exact List.Perm.append_left _ (dists_perm n cs)
/-- the distance, as the law reckons it -/
def gap (n a b : Int) : Int := if n - b + a < b - a then n - b + a else b - a
theorem gap_is {n a b : Int} (h0 : 0 ≤ a) (h1 : a < b) (h2 : b < n) : gap n a b = dist n a b := by
  have e1 : (b - a) % n = b - a := Int.emod_eq_of_lt (by omega) (by omega)
  have e2 : (a - b) % n = n - b + a := by
    rw [show n - b + a = (a - b) + n * 1 by omega, ← Int.add_mul_emod_self_left (a - b) n 1]
    exact Int.emod_eq_of_lt (by omega) (by omega)
  unfold gap dist
  rw [e1, e2]
def gaps (n : Int) (cs ds : List Int) : List Int := cs.flatMap fun a => (ds.filter fun b => decide (a < b)).map fun b => gap n a b
theorem gaps_is {n : Int} : ∀ {cs : List Int}, Tones n cs → gaps n cs cs = prs n cs
  | [], _ => rfl
  | x :: cs, h => by
    have hp := List.pairwise_cons.mp h.1
    have hx := h.2 x (List.mem_cons_self ..)
    have ht : Tones n cs := ⟨hp.2, fun y hy => h.2 y (List.mem_cons_of_mem _ hy)⟩
    unfold gaps
    rw [List.flatMap_cons, prs]
    have e1 : (List.filter (fun b => decide (x < b)) (x :: cs)) = cs := by
      rw [List.filter_cons_of_neg (by simp)]
      exact List.filter_eq_self.mpr fun y hy => decide_eq_true (hp.1 y hy)
    rw [e1]
    have e2 : (cs.map fun b => gap n x b) = cs.map (dist n x) := List.map_congr_left fun y hy => gap_is hx.1 (hp.1 y hy) (ht.2 y hy).2
    rw [e2]
    congr 1
    refine Eq.trans ?_ (gaps_is ht)
    unfold gaps
    rw [List.flatMap_def, List.flatMap_def]
    congr 1
    refine List.map_congr_left fun a ha => ?_
    rw [List.filter_cons_of_neg (by have := hp.1 a ha; simp; omega)]
/-- how often lo, lo + 1, .. are there -/
def cntL (lo : Int) (m : Nat) (l : List Int) : List Int := (List.range m).map fun (k : Nat) => ((l.count (lo + (k : Int)) : Nat) : Int)
theorem cnt_len (lo : Int) (m : Nat) (l : List Int) : (cntL lo m l).length = m := by simp [cntL]
theorem cnt_perm {lo : Int} {m : Nat} {l l' : List Int} (h : l.Perm l') : cntL lo m l = cntL lo m l' :=
  List.map_congr_left fun k _ => by rw [h.count_eq]
theorem cnt_get {lo : Int} {m : Nat} {l : List Int} {v : Int} (h0 : lo ≤ v) (h1 : v < lo + m) : (cntL lo m l)[(v - lo).toNat]? = some ((l.count v : Nat) : Int) := by
  unfold cntL
  rw [List.getElem?_map, List.getElem?_range (by omega)]
  have : lo + (((v - lo).toNat : Nat) : Int) = v := by omega
  simp only [Option.map_some, this]
theorem cnt_add {lo : Int} {m : Nat} {l : List Int} {v : Int} (h0 : lo ≤ v) (h1 : v < lo + m) : cntL lo m (l ++ [v]) = (cntL lo m l).set (v - lo).toNat (((l.count v : Nat) : Int) + 1) := by
  refine List.ext_getElem (by rw [List.length_set, cnt_len, cnt_len]) fun i g1 g2 => ?_
  have hi : i < m := by rw [cnt_len] at g1; exact g1
  rw [List.getElem_set]
  have ea : (cntL lo m (l ++ [v]))[i] = (((l ++ [v]).count (lo + (i : Int)) : Nat) : Int) := by simp [cntL]
  have eb : (cntL lo m l)[i]'(by rw [cnt_len]; exact hi) = ((l.count (lo + (i : Int)) : Nat) : Int) := by simp [cntL]
  rw [ea, List.count_append]
  by_cases e : (v - lo).toNat = i
  · have ev : lo + (i : Int) = v := by omega
    rw [if_pos e, ev]
    simp
  · rw [if_neg e, eb]
    have nv : lo + (i : Int) ≠ v := by omega
    have z : [v].count (lo + (i : Int)) = 0 := by
      rw [List.count_eq_zero]
      simpa using nv
    rw [z]
    rfl
theorem sum_set : ∀ {xs : List Int} {i : Nat} {x y : Int}, xs[i]? = some x → (xs.set i y).sum = xs.sum - x + y
  | [], _, _, _, h => by simp at h
  | a :: xs, 0, x, y, h => by
    simp at h
    subst h
    rw [List.set_cons_zero, List.sum_cons, List.sum_cons]
    omega
  | a :: xs, i + 1, x, y, h => by
    rw [List.set_cons_succ, List.sum_cons, List.sum_cons, sum_set (xs := xs) (i := i) (x := x) (y := y) (by simpa using h)]
    omega
theorem cnt_nil (lo : Int) (m : Nat) : (cntL lo m []).sum = 0 := by
  unfold cntL
  have e : ((List.range m).map fun (k : Nat) => ((([] : List Int).count (lo + (k : Int)) : Nat) : Int)) = (List.range m).map fun _ => (0 : Int) := List.map_congr_left fun k _ => by simp
  rw [e]
  generalize List.range m = r
  induction r with
  | nil => rfl
  | cons a r ih => rw [List.map_cons, List.sum_cons, ih]; rfl
theorem cnt_sum {lo : Int} {m : Nat} : ∀ {l : List Int}, (∀ v ∈ l, lo ≤ v ∧ v < lo + m) → (cntL lo m l).sum = l.length
  | [], _ => cnt_nil lo m
  | v :: l, h => by
    have hv := h v (List.mem_cons_self ..)
    have e : cntL lo m (v :: l) = cntL lo m (l ++ [v]) := cnt_perm (List.perm_append_comm (l₁ := [v]) (l₂ := l))
    rw [e, cnt_add hv.1 hv.2, sum_set (cnt_get hv.1 hv.2), cnt_sum fun w hw => h w (List.mem_cons_of_mem _ hw), List.length_cons]
    omega
theorem prs_len (n : Int) : ∀ cs : List Int, 2 * ((prs n cs).length : Int) = (cs.length : Int) * ((cs.length : Int) - 1)
  | [] => rfl
  | x :: cs => by
    have ih := prs_len n cs
    rw [prs, List.length_append, List.length_map, List.length_cons]
    have e1 : ((cs.length + (prs n cs).length : Nat) : Int) = (cs.length : Int) + ((prs n cs).length : Int) := by omega
    have e2 : ((cs.length + 1 : Nat) : Int) = (cs.length : Int) + 1 := by omega
    rw [e1, e2, Int.mul_add, ih]
    generalize (cs.length : Int) = s
    rw [Int.mul_sub, Int.add_mul, Int.mul_sub, Int.mul_add]
    simp only [Int.mul_one, Int.one_mul]
    omega
theorem dist_lo {n a b : Int} (ha : 0 ≤ a ∧ a < n) (hb : 0 ≤ b ∧ b < n) (hne : a ≠ b) : 1 ≤ dist n a b ∧ 2 * dist n a b ≤ n ∧ ((dist n a b = (b - a) % n ∧ (a - b) % n = n - (b - a) % n) ∨ (dist n a b = (a - b) % n ∧ (a - b) % n = n - (b - a) % n)) ∧ 1 ≤ (b - a) % n := by
  have hn : 0 < n := by omega
  have l := mod_lo (b - a) hn
  have u := mod_hi (b - a) hn
  have bk := back_of' a b hn
  have nz : (b - a) % n ≠ 0 := by
    intro z
    have e := mod_split (b - a) n
    rw [z] at e
    have h1 : -n < b - a := by omega
    have h2 : b - a < n := by omega
    have : (b - a) / n = 0 := by
      rcases Int.lt_trichotomy ((b - a) / n) 0 with h | h | h
      · have := Int.mul_le_mul_of_nonneg_left (show (b - a) / n ≤ -1 by omega) (show 0 ≤ n by omega)
        rw [Int.mul_neg, Int.mul_one] at this
        omega
      · exact h
      · have := Int.mul_le_mul_of_nonneg_left (show 1 ≤ (b - a) / n by omega) (show 0 ≤ n by omega)
        rw [Int.mul_one] at this
        omega
    rw [this, Int.mul_zero] at e
    omega
  rw [if_neg nz] at bk
  unfold dist
  rw [bk]
  generalize (b - a) % n = s at *
  split
  · exact ⟨by omega, by omega, .inr ⟨rfl, rfl⟩, by omega⟩
  · exact ⟨by omega, by omega, .inl ⟨rfl, rfl⟩, by omega⟩
theorem prs_mem {n : Int} : ∀ {cs : List Int}, Tones n cs → ∀ v ∈ prs n cs, 1 ≤ v ∧ 2 * v ≤ n
  | [], _, v, hv => by cases hv
  | x :: cs, h, v, hv => by
    have hp := List.pairwise_cons.mp h.1
    have ht : Tones n cs := ⟨hp.2, fun y hy => h.2 y (List.mem_cons_of_mem _ hy)⟩
    rw [prs, List.mem_append] at hv
    rcases hv with hv | hv
    · obtain ⟨y, hy, rfl⟩ := List.mem_map.mp hv
      have := dist_lo (h.2 x (List.mem_cons_self ..)) (ht.2 y hy) (by have := hp.1 y hy; omega)
      exact ⟨this.1, this.2.1⟩
    · exact prs_mem ht v hv
/-- the counts and the sums, as the program tells them -/
def cnts (n : Int) (cs : List Int) : List Int := cntL 1 (n / 2 + 1 - 1).toNat (dists n cs)
def smL (n : Int) (cs ds : List Int) : List Int := cs.flatMap fun a => ds.map fun b => (a + b) % n
def sms (n : Int) (cs : List Int) : List Int := cntL 0 n.toNat (smL n cs cs)
theorem smL_len (n : Int) (ds : List Int) : ∀ cs : List Int, ((smL n cs ds).length : Int) = (cs.length : Int) * (ds.length : Int)
  | [] => by simp [smL]
  | x :: cs => by
    have ih := smL_len n ds cs
    have e : smL n (x :: cs) ds = ds.map (fun b => (x + b) % n) ++ smL n cs ds := by unfold smL; rw [List.flatMap_cons]
    rw [e, List.length_append, List.length_map, List.length_cons]
    have e1 : ((ds.length + (smL n cs ds).length : Nat) : Int) = (ds.length : Int) + ((smL n cs ds).length : Int) := by omega
    have e2 : ((cs.length + 1 : Nat) : Int) = (cs.length : Int) + 1 := by omega
    rw [e1, e2, ih, Int.add_mul, Int.one_mul, Int.add_comm]
theorem smL_mem {n : Int} (hn : 0 < n) {cs ds : List Int} : ∀ v ∈ smL n cs ds, 0 ≤ v ∧ v < 0 + (n.toNat : Int) := by
  intro v hv
  obtain ⟨a, _, hb⟩ := List.mem_flatMap.mp hv
  obtain ⟨b, _, rfl⟩ := List.mem_map.mp hb
  have := mod_lo (a + b) hn
  have := mod_hi (a + b) hn
  omega
theorem Tones.mono {n n' : Int} {cs : List Int} (h : Tones n cs) (hn : n ≤ n') : Tones n' cs := ⟨h.1, fun x hx => by have := h.2 x hx; omega⟩

/-! ### common tones of a crowd and its turns and mirrors -/
/-- the steps between any two tones, both ways -/
def stp (n : Int) (cs ds : List Int) : List Int := cs.flatMap fun b => ds.map fun a => (b - a) % n
theorem sum_ones {cs : List Int} (p : Int → Bool) : (cs.map fun b => if p b = true then 1 else 0).sum = (cs.filter p).length := by
  induction cs with
  | nil => rfl
  | cons x cs ih =>
    rw [List.map_cons, List.sum_cons, ih]
    by_cases h : p x = true
    · rw [if_pos h, List.filter_cons_of_pos h, List.length_cons]; omega
    · rw [if_neg h, List.filter_cons_of_neg h]; omega
/-- counting pairs by the second one, where it is at most one -/
theorem count_by {cs ds : List Int} (f : Int → Int → Int) (k : Int) (hd : ∀ b ∈ cs, (ds.map (f b)).Nodup) : (cs.flatMap fun b => ds.map (f b)).count k = (cs.filter fun b => decide (k ∈ ds.map (f b))).length := by
  rw [List.count_flatMap, ← sum_ones]
  congr 1
  refine List.map_congr_left fun b hb => ?_
  show (ds.map (f b)).count k = _
  rw [(hd b hb).count]
  by_cases h : k ∈ ds.map (f b)
  · rw [if_pos h, if_pos (decide_eq_true h)]
  · rw [if_neg h, if_neg (by simpa using h)]
theorem sub_inj {n b x y : Int} (hx : 0 ≤ x ∧ x < n) (hy : 0 ≤ y ∧ y < n) (e : (b - x) % n = (b - y) % n) : x = y := dn_inj false b hx hy e
theorem stp_nodup {n b : Int} {ds : List Int} (h : Tones n ds) : (ds.map fun a => (b - a) % n).Nodup := img_nodup false b h
/-- the number of common tones of a crowd and itself turned by k -/
theorem turn_common {n k : Int} (hn : 0 < n) {cs : List Int} (h : Tones n cs) (hk : 0 ≤ k ∧ k < n) : (cs.filter fun y => decide (y ∈ img n true k cs)).length = (stp n cs cs).count k := by
  unfold stp
  rw [count_by _ _ fun b _ => stp_nodup h]
  congr 1
  refine List.filter_congr fun b hb => ?_
  rw [Bool.eq_iff_iff, decide_eq_true_eq, decide_eq_true_eq, img_mem hn, List.mem_map]
  have hb' := h.2 b hb
  constructor
  · rintro ⟨x, hx, e⟩
    have e : (x + k) % n = b := e
    refine ⟨x, hx, ?_⟩
    have s := mod_split (x + k) n
    exact mod_of (-((x + k) / n)) (by rw [Int.mul_neg]; omega) hk.1 hk.2
  · rintro ⟨x, hx, e⟩
    refine ⟨x, hx, ?_⟩
    show (x + k) % n = b
    have s := mod_split (b - x) n
    exact mod_of (-((b - x) / n)) (by rw [Int.mul_neg]; omega) hb'.1 hb'.2
/-- of a crowd and itself mirrored by k -/
theorem mirror_common {n k : Int} (hn : 0 < n) {cs : List Int} (h : Tones n cs) (hk : 0 ≤ k ∧ k < n) : (cs.filter fun y => decide (y ∈ img n false k cs)).length = (smL n cs cs).count k := by
  unfold smL
  have nd : ∀ b ∈ cs, (cs.map fun a => (b + a) % n).Nodup := fun b _ => by
    have e : (cs.map fun a => (b + a) % n) = cs.map (dn n true b) := List.map_congr_left fun a _ => by
      show (b + a) % n = (a + b) % n
      rw [Int.add_comm]
    rw [e]
    exact img_nodup true b h
  rw [count_by _ _ nd]
  congr 1
  refine List.filter_congr fun b hb => ?_
  rw [Bool.eq_iff_iff, decide_eq_true_eq, decide_eq_true_eq, img_mem hn, List.mem_map]
  have hb' := h.2 b hb
  constructor
  · rintro ⟨x, hx, e⟩
    have e : (k - x) % n = b := e
    refine ⟨x, hx, ?_⟩
    have s := mod_split (k - x) n
    exact mod_of (-((k - x) / n)) (by rw [Int.mul_neg]; omega) hk.1 hk.2
  · rintro ⟨x, hx, e⟩
    refine ⟨x, hx, ?_⟩
    show (k - x) % n = b
    have s := mod_split (b + x) n
    exact mod_of (-((b + x) / n)) (by rw [Int.mul_neg]; omega) hb'.1 hb'.2
/-- the lesser of a step and the step back; how often a pair counts -/
def lsr (n k : Int) : Int := if n - k < k then n - k else k
def fac (n k : Int) : Nat := if 2 * k = n then 2 else 1
theorem pair_counts {n k x : Int} (hk : 1 ≤ k ∧ k < n) (hx : 0 ≤ x ∧ x < n) : ∀ {cs : List Int}, (∀ y ∈ cs, (0 ≤ y ∧ y < n) ∧ x ≠ y) →
    (cs.map fun a => (x - a) % n).count k + (cs.map fun b => (b - x) % n).count k = (cs.map (dist n x)).count (lsr n k) * fac n k
  | [], _ => by simp
  | y :: cs, h => by
    have hy := h y (List.mem_cons_self ..)
    have ih := pair_counts hk hx (cs := cs) fun z hz => h z (List.mem_cons_of_mem _ hz)
    have d := dist_lo hx hy.1 hy.2
    rw [List.map_cons, List.map_cons, List.map_cons, List.count_cons, List.count_cons, List.count_cons, Nat.add_mul, ← ih]
    have key : (if ((x - y) % n == k) = true then 1 else 0) + (if ((y - x) % n == k) = true then 1 else 0) = (if (dist n x y == lsr n k) = true then 1 else 0) * fac n k := by
      simp only [beq_iff_eq]
      generalize (y - x) % n = s at *
      generalize (x - y) % n = t at *
      generalize dist n x y = e at *
      unfold lsr fac
      obtain ⟨d1, d2, d3, d4⟩ := d
      by_cases c1 : 2 * k = n
      · rw [if_pos c1]
        rw [if_neg (show ¬ n - k < k by omega)]
        by_cases c2 : t = k
        · rw [if_pos c2, if_pos (show s = k by omega), if_pos (show e = k by omega)]
        · rw [if_neg c2, if_neg (show ¬ s = k by omega), if_neg (show ¬ e = k by omega)]
      · rw [if_neg c1]
        by_cases c2 : t = k
        · rw [if_pos c2, if_neg (show ¬ s = k by omega)]
          by_cases c3 : n - k < k
          · rw [if_pos c3, if_pos (show e = n - k by omega)]
          · rw [if_neg c3, if_pos (show e = k by omega)]
        · by_cases c4 : s = k
          · rw [if_neg c2, if_pos c4]
            by_cases c3 : n - k < k
            · rw [if_pos c3, if_pos (show e = n - k by omega)]
            · rw [if_neg c3, if_pos (show e = k by omega)]
          · rw [if_neg c2, if_neg c4]
            by_cases c3 : n - k < k
            · rw [if_pos c3, if_neg (show ¬ e = n - k by omega)]
            · rw [if_neg c3, if_neg (show ¬ e = k by omega)]
    omega
theorem stp_counts {n k : Int} (hk : 1 ≤ k ∧ k < n) : ∀ {cs : List Int}, Tones n cs → (stp n cs cs).count k = (prs n cs).count (lsr n k) * fac n k
  | [], _ => by simp [stp, prs]
  | x :: cs, h => by
    have hp := List.pairwise_cons.mp h.1
    have hx := h.2 x (List.mem_cons_self ..)
    have ht : Tones n cs := ⟨hp.2, fun y hy => h.2 y (List.mem_cons_of_mem _ hy)⟩
    have ih := stp_counts hk ht
    have e1 : stp n (x :: cs) (x :: cs) = (x - x) % n :: cs.map (fun a => (x - a) % n) ++ cs.flatMap fun b => (b - x) % n :: cs.map fun a => (b - a) % n := by
      unfold stp
      rw [List.flatMap_cons, List.map_cons]
      rfl
    have e2 := (perm_heads (fun b => (b - x) % n) (fun b => cs.map fun a => (b - a) % n) cs).count_eq k
    rw [e1, List.cons_append, List.count_cons, List.count_append, e2, List.count_append, prs, List.count_append, Nat.add_mul, ← ih]
    have z : ¬ ((x - x) % n == k) = true := by
      have : (x - x) % n = 0 := by rw [Int.sub_self]; exact Int.zero_emod n
      rw [this]
      simp
      omega
    rw [if_neg z, ← pair_counts hk hx fun y hy => ⟨ht.2 y hy, by have := hp.1 y hy; omega⟩]
    show _ = _ + (stp n cs cs).count k
    unfold stp
    omega
theorem img_perm {n : Int} (hn : 0 < n) (t : Bool) (m : Int) {cs : List Int} (h : Tones n cs) : (img n t m cs).Perm (cs.map (dn n t m)) :=
  (List.perm_ext_iff_of_nodup ((cw_pw _ _).imp fun h => Int.ne_of_lt h) (img_nodup t m h)).mpr fun x => by
    show x ∈ img n t m cs ↔ _
    rw [img_mem hn, List.mem_map]
/-- .. the other way round -/
theorem turn_common' {n k : Int} (hn : 0 < n) {cs : List Int} (h : Tones n cs) (hk : 0 ≤ k ∧ k < n) : ((img n true ((-k) % n) cs).filter fun y => decide (y ∈ cs)).length = (stp n cs cs).count k := by
  rw [((img_perm hn true ((-k) % n) h).filter _).length_eq, List.filter_map, List.length_map, ← turn_common hn h hk]
  congr 1
  refine List.filter_congr fun b hb => ?_
  show decide (dn n true ((-k) % n) b ∈ cs) = decide (b ∈ img n true k cs)
  rw [Bool.eq_iff_iff, decide_eq_true_eq, decide_eq_true_eq, img_mem hn]
  have hb' := h.2 b hb
  have e0 : dn n true ((-k) % n) b = (b - k) % n := by
    show (b + (-k) % n) % n = (b - k) % n
    have s := mod_split (-k) n
    exact emod_eq (-((-k) / n)) (by rw [Int.mul_neg]; omega)
  rw [e0]
  constructor
  · intro hz
    refine ⟨_, hz, ?_⟩
    show ((b - k) % n + k) % n = b
    have s := mod_split (b - k) n
    exact mod_of (-((b - k) / n)) (by rw [Int.mul_neg]; omega) hb'.1 hb'.2
  · rintro ⟨x, hx, e⟩
    have e : (x + k) % n = b := e
    have hx' := h.2 x hx
    have s := mod_split (x + k) n
    have : (b - k) % n = x := mod_of (-((x + k) / n)) (by rw [Int.mul_neg]; omega) hx'.1 hx'.2
    rw [this]
    exact hx
theorem turn_zero {n : Int} (hn : 0 < n) {cs : List Int} (h : Tones n cs) : img n true 0 cs = cs := by
  refine (img_tones n true 0 cs).ext h fun x => ?_
  rw [img_mem hn]
  constructor
  · rintro ⟨y, hy, e⟩
    have e : (y + 0) % n = x := e
    have := h.2 y hy
    rw [Int.add_zero, Int.emod_eq_of_lt this.1 this.2] at e
    rw [← e]; exact hy
  · intro hx
    have := h.2 x hx
    refine ⟨x, hx, ?_⟩
    show (x + 0) % n = x
    rw [Int.add_zero, Int.emod_eq_of_lt this.1 this.2]
def TupR (H : Hp) (v : V) (k : List Int) : Prop := ∃ r, v = .ref r ∧ H r = some (.tup (k.map V.int))
theorem TupR.mono {H1 H2 : Hp} {v : V} {k : List Int} (t : TupKeep H1 H2) (r : TupR H1 v k) : TupR H2 v k := let ⟨p, e, h⟩ := r; ⟨p, e, t _ _ h⟩
theorem new_all {H : Hp} {D : Addr} {o : HO} (h : H D = none) : Same H (upd H D o) ∧ upd H D o D = some o := ⟨Same.new h, upd_same⟩
end My
namespace L2
open PySem PySem.Spec PyProof.Rows
/-! ### == and in of lists and tuples that hold tuples -/
/-- a way to read values: what is read is one thing, and two values are equal just where they are read alike -/
structure EqOk (K : PySem.W.Frag) (d : Nat) {α : Type} [DecidableEq α] (R : Hp → V → α → Prop) : Prop where
  fn : ∀ {H x a b}, R H x a → R H x b → a = b
  eq : ∀ {X : Cx} {A : Around} {pins : List (Addr × Obj)} {σ : List (Option V)} {H : Hp} {s : Shared} {x y : V} {v u : Value} {a b : α}, X.K = K → Inv X pins σ H s → RelV x v → RelV y u → R H x a → R H y b → A.units + d < cLine → SeqAt.EqAt A s v u (decide (a = b))
def IntR (_ : Hp) (x : V) (i : Int) : Prop := x = .int i
def StrR (_ : Hp) (x : V) (t : Str) : Prop := x = .str t
theorem eqok_int {K : PySem.W.Frag} : EqOk K 0 IntR where
  fn := by
    rintro H x a b h k
    cases h
    cases k
    rfl
  eq := by
    rintro X A pins σ H s x y v u a b hK I r r' h k hu
    cases h
    cases k
    have e : decide (a = b) = eqV (V.int a) (V.int b) := by
      rw [eqV_plain rfl rfl, Bool.eq_iff_iff]
      simp
    rw [e]
    exact eqAt_V r r' rfl rfl
theorem eqok_str {K : PySem.W.Frag} : EqOk K 0 StrR where
  fn := by
    rintro H x a b h k
    cases h
    cases k
    rfl
  eq := by
    rintro X A pins σ H s x y v u a b hK I r r' h k hu
    cases h
    cases k
    have e : decide (a = b) = eqV (V.str a) (V.str b) := by
      rw [eqV_plain rfl rfl, Bool.eq_iff_iff]
      simp
    rw [e]
    exact eqAt_V r r' rfl rfl
theorem prd_fn {α : Type} {R : V → α → Prop} (f : ∀ x a b, R x a → R x b → a = b) : ∀ {xs : List V} {as bs : List α}, Paired R xs as → Paired R xs bs → as = bs
  | [], _, _, .nil, .nil => rfl
  | _ :: _, _, _, .cons r t, .cons r' t' => by rw [f _ _ _ r r', prd_fn f t t']
theorem prd_at {α : Type} {R : V → α → Prop} : ∀ {xs : List V} {as : List α} {i : Nat} {x : V}, Paired R xs as → xs[i]? = some x → ∃ a, as[i]? = some a ∧ R x a
  | [], _, _, _, .nil, e => by simp at e
  | _ :: _, _, 0, _, .cons r _, e => by simp at e; subst e; exact ⟨_, rfl, r⟩
  | _ :: _, _, i + 1, x, .cons _ t, e => by
    simp at e
    obtain ⟨a, h, r⟩ := prd_at t e
    exact ⟨a, by simpa using h, r⟩
/-- equal at every place and as long -/
theorem all_get {α : Type} [DecidableEq α] (as bs : List α) : ((List.range (min as.length bs.length)).all (fun j => decide (as[j]? = bs[j]?)) && as.length == bs.length) = decide (as = bs) := by
  rw [Bool.eq_iff_iff, Bool.and_eq_true, List.all_eq_true, beq_iff_eq, decide_eq_true_eq]
  constructor
  · rintro ⟨h, e⟩
    refine List.ext_getElem? fun j => ?_
    by_cases hj : j < as.length
    · exact of_decide_eq_true (h j (List.mem_range.mpr (by omega)))
    · rw [List.getElem?_eq_none (by omega), List.getElem?_eq_none (by omega)]
  · rintro rfl
    exact ⟨fun j _ => decide_eq_true rfl, rfl⟩
theorem all_get_same {α : Type} [DecidableEq α] {as bs : List α} (h : as.length = bs.length) : (List.range as.length).all (fun j => decide (as[j]? = bs[j]?)) = decide (as = bs) := by
  have := all_get as bs
  rw [← h, Nat.min_self, beq_self_eq_true, Bool.and_true] at this
  exact this
section
variable {K : PySem.W.Frag} {d : Nat} {α : Type} [DecidableEq α] {R : Hp → V → α → Prop}
theorem eqok_items (ok : EqOk K d R) {X : Cx} {A : Around} {pins : List (Addr × Obj)} {σ : List (Option V)} {H : Hp} {s : Shared} (hK : X.K = K) (I : Inv X pins σ H s) {xs ys : List V} {as bs : List α} {its its2 : List Value}
    (r : Vals xs its) (r2 : Vals ys its2) (pa : Paired (R H) xs as) (pb : Paired (R H) ys bs) (hu : A.units + d < cLine) :
    ∀ j (h1 : j < its.toArray.size) (h2 : j < its2.toArray.size), SeqAt.EqAt A s its.toArray[j] its2.toArray[j] (decide (as[j]? = bs[j]?)) := by
  intro j h1 h2
  have e1 := r.length
  have e2 := r2.length
  rw [List.size_toArray] at h1 h2
  have g1 : xs[j]? = some xs[j] := by simp
  have g2 : ys[j]? = some ys[j] := by simp
  obtain ⟨u, hu1, ru⟩ := r.get g1
  obtain ⟨v, hv1, rv⟩ := r2.get g2
  obtain ⟨a, ha, ra⟩ := prd_at pa g1
  obtain ⟨b, hb, rb⟩ := prd_at pb g2
  have z1 : its.toArray[j]'(by rw [List.size_toArray]; exact h1) = u := by
    obtain ⟨_, q⟩ := List.getElem?_eq_some_iff.mp hu1
    simpa using q
  have z2 : its2.toArray[j]'(by rw [List.size_toArray]; exact h2) = v := by
    obtain ⟨_, q⟩ := List.getElem?_eq_some_iff.mp hv1
    simpa using q
  rw [z1, z2, ha, hb]
  have e : decide (some a = some b) = decide (a = b) := by rw [Bool.eq_iff_iff]; simp
  rw [e]
  exact ok.eq hK I ru rv ra rb hu
/-- a tuple whose items are read by R -/
def TupOf (R : Hp → V → α → Prop) (H : Hp) (x : V) (as : List α) : Prop := ∃ p xs, x = .ref p ∧ H p = some (.tup xs) ∧ Paired (R H) xs as
theorem sizes {xs ys : List V} {as bs : List α} {its its2 : List Value} {P P' : V → α → Prop} (r : Vals xs its) (r2 : Vals ys its2) (pa : Paired P xs as) (pb : Paired P' ys bs) : its.toArray.size = as.length ∧ its2.toArray.size = bs.length := by
  rw [List.size_toArray, List.size_toArray, ← r.length, ← r2.length]
  exact ⟨prd_len pa, prd_len pb⟩
theorem eqok_tup (ok : EqOk K d R) : EqOk K (d + 1) (TupOf R) where
  fn := by
    rintro H x as bs ⟨p, xs, rfl, hp, pa⟩ ⟨p', xs', e, hp', pb⟩
    cases e
    rw [hp] at hp'
    cases hp'
    exact prd_fn (R := R H) (fun _ _ _ h k => ok.fn h k) pa pb
  eq := by
    rintro X A pins σ H s x y v u as bs hK I r r' ⟨p, xs, rfl, hp, pa⟩ ⟨p', ys, rfl, hp', pb⟩ hu
    cases r
    cases r'
    by_cases e : p = p'
    · subst e
      rw [hp] at hp'
      cases hp'
      rw [decide_eq_true (prd_fn (R := R H) (fun _ _ _ h k => ok.fn h k) pa pb)]
      exact SeqAt.EqAt.same _
    · obtain ⟨its, r1, p1, _⟩ := I.tuple (SqT.of hp)
      obtain ⟨its2, r2, p2, _⟩ := I.tuple (SqT.of hp')
      obtain ⟨z1, z2⟩ := sizes r1 r2 pa pb
      refine SeqAt.EqAt.of_refs e ?_
      have := SeqAt.RcAt.tuples (A := A) p1 p2 (by omega) (eqok_items (A := A.in1) ok hK I r1 r2 pa pb (by show A.units + 1 + d < cLine; omega))
      rw [z1, z2, all_get] at this
      exact this
variable {X : Cx}
def rEqLd (K : PySem.W.Frag) (R : Hp → V → α → Prop) (g : Bool → Bool) : R2 := fun x y H Q => ∃ a b xs ys as bs, x = .ref a ∧ y = .ref b ∧ SqL K H a xs ∧ SqL K H b ys ∧ Paired (R H) xs as ∧ Paired (R H) ys bs ∧ Q (.bl (g (decide (as = bs)))) H
def rEqTd (K : PySem.W.Frag) (R : Hp → V → α → Prop) (g : Bool → Bool) : R2 := fun x y H Q => ∃ a b xs ys as bs, x = .ref a ∧ y = .ref b ∧ SqT K H a xs ∧ SqT K H b ys ∧ Paired (R H) xs as ∧ Paired (R H) ys bs ∧ Q (.bl (g (decide (as = bs)))) H
theorem op_eqTd (ok : EqOk X.K d R) (hd : d ≤ 60) (hu : X.A.units + 64 < cLine) : OpR X (compareOp .Eq) (rEqTd X.K R fun b => b) := by
  intro pins s σ H x y v u Q I rx ry h
  obtain ⟨a, b, xs, ys, as, bs, rfl, rfl, ha, hb, pa, pb, q⟩ := h
  cases rx; cases ry
  obtain ⟨its, r, p, hz⟩ := I.tuple ha
  obtain ⟨its2, r2, p2, hz2⟩ := I.tuple hb
  obtain ⟨z1, z2⟩ := sizes r r2 pa pb
  refine SeqAt.eq_tupleAt p p2 (by omega) (eqok_items (A := X.A.in1) ok rfl I r r2 pa pb (by show X.A.units + 1 + d < cLine; omega)) ⟨.bl _, H, I, rfl, ?_⟩
  rw [z1, z2, all_get]
  exact q
theorem op_neTd (ok : EqOk X.K d R) (hd : d ≤ 60) (hu : X.A.units + 64 < cLine) : OpR X (compareOp .NotEq) (rEqTd X.K R fun b => !b) := by
  intro pins s σ H x y v u Q I rx ry h
  obtain ⟨a, b, xs, ys, as, bs, rfl, rfl, ha, hb, pa, pb, q⟩ := h
  cases rx; cases ry
  obtain ⟨its, r, p, hz⟩ := I.tuple ha
  obtain ⟨its2, r2, p2, hz2⟩ := I.tuple hb
  obtain ⟨z1, z2⟩ := sizes r r2 pa pb
  refine SeqAt.RcNeAt.tuples p p2 (by omega) (eqok_items (A := X.A.in1) ok rfl I r r2 pa pb (by show X.A.units + 1 + d < cLine; omega)) _ _ _ _ ⟨.bl _, H, I, rfl, ?_⟩
  rw [z1, z2, all_get]
  exact q
theorem op_eqLd (ok : EqOk X.K d R) (hd : d ≤ 60) (hu : X.A.units + 64 < cLine) : OpR X (compareOp .Eq) (rEqLd X.K R fun b => b) := by
  intro pins s σ H x y v u Q I rx ry h
  obtain ⟨a, b, xs, ys, as, bs, rfl, rfl, ha, hb, pa, pb, q⟩ := h
  cases rx; cases ry
  obtain ⟨its, r, p, hz⟩ := I.list ha
  obtain ⟨its2, r2, p2, hz2⟩ := I.list hb
  obtain ⟨z1, z2⟩ := sizes r r2 pa pb
  by_cases hs : its.toArray.size = its2.toArray.size
  · refine SeqAt.eq_listAt p.isList p2.isList hs (by omega) (eqok_items (A := X.A.in1) ok rfl I r r2 pa pb (by show X.A.units + 1 + d < cLine; omega)) ⟨.bl _, H, I, rfl, ?_⟩
    rw [z1, all_get_same (by omega)]
    exact q
  · refine SeqAt.eq_list_lengthsAt p.isList p2.isList (by simpa using hs) (by omega) ⟨.bl _, H, I, rfl, ?_⟩
    rw [decide_eq_false (fun e => hs (by rw [z1, z2, e]))] at q
    exact q
theorem op_neLd (ok : EqOk X.K d R) (hd : d ≤ 60) (hu : X.A.units + 64 < cLine) : OpR X (compareOp .NotEq) (rEqLd X.K R fun b => !b) := by
  intro pins s σ H x y v u Q I rx ry h
  obtain ⟨a, b, xs, ys, as, bs, rfl, rfl, ha, hb, pa, pb, q⟩ := h
  cases rx; cases ry
  obtain ⟨its, r, p, hz⟩ := I.list ha
  obtain ⟨its2, r2, p2, hz2⟩ := I.list hb
  obtain ⟨z1, z2⟩ := sizes r r2 pa pb
  by_cases hs : its.toArray.size = its2.toArray.size
  · refine SeqAt.RcNeAt.lists p.isList p2.isList hs (by omega) (eqok_items (A := X.A.in1) ok rfl I r r2 pa pb (by show X.A.units + 1 + d < cLine; omega)) _ _ _ _ ⟨.bl _, H, I, rfl, ?_⟩
    rw [z1, all_get_same (by omega)]
    exact q
  · refine SeqAt.RcNeAt.lists_lengths p.isList p2.isList (by simpa using hs) (by omega) _ _ _ _ ⟨.bl _, H, I, rfl, ?_⟩
    rw [decide_eq_false (fun e => hs (by rw [z1, z2, e]))] at q
    exact q
/-- in a list or a tuple -/
def rInD (K : PySem.W.Frag) (R : Hp → V → α → Prop) (g : Bool → Bool) : R2 := fun x y H Q => ∃ p xs a as, y = .ref p ∧ (SqL K H p xs ∨ SqT K H p xs) ∧ R H x a ∧ Paired (R H) xs as ∧ Q (.bl (g (decide (a ∈ as)))) H
open Classical in
noncomputable def inE (its : List Value) (as : List α) (a : α) (v : Value) : Bool := decide (∃ j : Nat, its[j]? = some v ∧ as[j]? = some a)
open Classical in
theorem inE_iff {its : List Value} {as : List α} {a : α} {v : Value} : inE its as a v = true ↔ ∃ j : Nat, its[j]? = some v ∧ as[j]? = some a := by
  unfold inE
  exact decide_eq_true_iff
theorem inE_items (ok : EqOk X.K d R) {A : Around} {pins : List (Addr × Obj)} {σ : List (Option V)} {H : Hp} {s : Shared} (I : Inv X pins σ H s) {x : V} {v : Value} {xs : List V} {a : α} {as : List α} {its : List Value}
    (rx : RelV x v) (r : Vals xs its) (ra : R H x a) (pa : Paired (R H) xs as) (hu : A.units + d < cLine) : ∀ y, y ∈ its.toArray → SeqAt.EqAt A s y v (inE its as a y) := by
  intro y hy
  rw [List.mem_toArray] at hy
  obtain ⟨j, hj, rfl⟩ := List.getElem_of_mem hy
  have g0 : its[j]? = some its[j] := by simp
  have hjx : j < xs.length := by rw [r.length]; exact hj
  have g1 : xs[j]? = some xs[j] := by simp
  obtain ⟨u, hu1, ru⟩ := r.get g1
  rw [g0] at hu1
  cases hu1
  obtain ⟨b, hb, rb⟩ := prd_at pa g1
  have e : inE its as a its[j] = decide (b = a) := by
    rw [Bool.eq_iff_iff, inE_iff, decide_eq_true_eq]
    constructor
    · rintro ⟨i, h1, h2⟩
      have hi : i < xs.length := by rw [r.length]; exact (List.getElem?_eq_some_iff.mp h1).1
      have g2 : xs[i]? = some xs[i] := by simp
      obtain ⟨u2, hu2, ru2⟩ := r.get g2
      rw [h1] at hu2
      cases hu2
      obtain ⟨c, hc, rc⟩ := prd_at pa g2
      rw [h2] at hc
      cases hc
      rw [ru2.inj ru] at rc
      exact ok.fn rb rc
    · rintro rfl
      exact ⟨j, g0, hb⟩
  rw [e]
  exact ok.eq rfl I ru rx rb ra hu
theorem inE_any {its : List Value} {xs : List V} {as : List α} {a : α} {P : V → α → Prop} (r : Vals xs its) (pa : Paired P xs as) : its.toArray.any (inE its as a) = decide (a ∈ as) := by
  rw [List.any_toArray, Bool.eq_iff_iff, List.any_eq_true, decide_eq_true_eq]
  constructor
  · rintro ⟨v, _, h⟩
    obtain ⟨j, _, h2⟩ := inE_iff.mp h
    exact List.mem_of_getElem? h2
  · intro h
    obtain ⟨j, hj, e⟩ := List.getElem_of_mem h
    have l1 := r.length
    have l2 := prd_len pa
    have hj2 : j < its.length := by omega
    refine ⟨its[j], List.getElem_mem hj2, ?_⟩
    rw [inE_iff]
    exact ⟨j, List.getElem?_eq_getElem hj2, by rw [List.getElem?_eq_getElem hj, e]⟩
theorem op_inD (ok : EqOk X.K d R) (hd : d ≤ 60) (hu : X.A.units + 64 < cLine) : OpR X (compareOp .In) (rInD X.K R fun b => b) := by
  intro pins s σ H x y v u Q I rx ry h
  obtain ⟨p, xs, a, as, rfl, hq, ra, pa, q⟩ := h
  cases ry
  rcases hq with hq | hq
  · obtain ⟨its, r, hp, hz⟩ := I.list hq
    refine SeqAt.in_listAt (inE its as a) hp.isList (inE_items (A := X.A.in1) ok I rx r ra pa (by show X.A.units + 1 + d < cLine; omega)) ⟨.bl _, H, I, rfl, ?_⟩
    rw [inE_any r pa]
    exact q
  · obtain ⟨its, r, hp, hz⟩ := I.tuple hq
    refine SeqAt.in_tupleAt (inE its as a) hp (inE_items (A := X.A.in1) ok I rx r ra pa (by show X.A.units + 1 + d < cLine; omega)) ⟨.bl _, H, I, rfl, ?_⟩
    rw [inE_any r pa]
    exact q
theorem op_notInD (ok : EqOk X.K d R) (hd : d ≤ 60) (hu : X.A.units + 64 < cLine) : OpR X (compareOp .NotIn) (rInD X.K R fun b => !b) := by
  intro pins s σ H x y v u Q I rx ry h
  obtain ⟨p, xs, a, as, rfl, hq, ra, pa, q⟩ := h
  cases ry
  rcases hq with hq | hq
  · obtain ⟨its, r, hp, hz⟩ := I.list hq
    refine SeqAt.notIn_listAt (inE its as a) hp.isList (inE_items (A := X.A.in1) ok I rx r ra pa (by show X.A.units + 1 + d < cLine; omega)) ⟨.bl _, H, I, rfl, ?_⟩
    rw [inE_any r pa]
    exact q
  · obtain ⟨its, r, hp, hz⟩ := I.tuple hq
    refine SeqAt.notIn_tupleAt (inE its as a) hp (inE_items (A := X.A.in1) ok I rx r ra pa (by show X.A.units + 1 + d < cLine; omega)) ⟨.bl _, H, I, rfl, ?_⟩
    rw [inE_any r pa]
    exact q
theorem kop_eqTd (h : X.K = K) (ok : EqOk K d R) (hd : d ≤ 60) (hu : X.A.units + 64 < cLine) : OpR X (compareOp .Eq) (rEqTd K R fun b => b) := by subst h; exact op_eqTd ok hd hu
theorem kop_neTd (h : X.K = K) (ok : EqOk K d R) (hd : d ≤ 60) (hu : X.A.units + 64 < cLine) : OpR X (compareOp .NotEq) (rEqTd K R fun b => !b) := by subst h; exact op_neTd ok hd hu
theorem kop_eqLd (h : X.K = K) (ok : EqOk K d R) (hd : d ≤ 60) (hu : X.A.units + 64 < cLine) : OpR X (compareOp .Eq) (rEqLd K R fun b => b) := by subst h; exact op_eqLd ok hd hu
theorem kop_neLd (h : X.K = K) (ok : EqOk K d R) (hd : d ≤ 60) (hu : X.A.units + 64 < cLine) : OpR X (compareOp .NotEq) (rEqLd K R fun b => !b) := by subst h; exact op_neLd ok hd hu
theorem kop_inD (h : X.K = K) (ok : EqOk K d R) (hd : d ≤ 60) (hu : X.A.units + 64 < cLine) : OpR X (compareOp .In) (rInD K R fun b => b) := by subst h; exact op_inD ok hd hu
theorem kop_notInD (h : X.K = K) (ok : EqOk K d R) (hd : d ≤ 60) (hu : X.A.units + 64 < cLine) : OpR X (compareOp .NotIn) (rInD K R fun b => !b) := by subst h; exact op_notInD ok hd hu
end
end L2
namespace L2
open PySem PySem.Spec PyProof.Rows
/-! ### texts: walked sign by sign, cut, turned round -/
/-- the signs of a text -/
def Its (x : Str) : It := ⟨fun i _ => i < x.cps.size, fun i H v H' => H' = H ∧ ∃ c, x.cps[i]? = some c ∧ v = .str ⟨#[c]⟩, fun i _ => x.cps.size ≤ i⟩
theorem turn_str {P : Program} {w : World} {K : PySem.W.Frag} {tg : Expr} (it : Addr) (x : Str) (t : Tok) : Turn P w K tg (Its x) [it] it (fun i h => h.IsStrIter it "str_ascii_iterator" x t i) where
  mem := by simp
  obj := fun i h st b hb => by
    have e : b = it := by simpa using hb
    subst e
    obtain ⟨o, e, c, d⟩ := st
    exact ⟨o, e, fun v z => by rw [d] at z; cases z⟩
  keep := fun i h h' st k => let ⟨o, ho, r⟩ := st; ⟨o, k it (by simp) o ho, r⟩
  item := by
    intro X hP hw hK hc i pins s σ H E I hf st hg
    subst hP hw hK
    obtain ⟨f0, f1, f2, f3, f4, f5⟩ := hf it (by simp)
    have hg : i < x.cps.size := hg
    have hi : x.cps[i]? = some x.cps[i] := by simp
    refine wpAny_pyNext_ascii_item st hi fun h' st' sb => ?_
    have I1 : Inv X pins σ H { s with heap := h', toks := s.toks + 1 } := I.turned (t' := s.toks + 1) (fun b o hb e => (sb.2 b hb).trans e) f0 f1 f3 f4 f5
    obtain ⟨o, e, c, d⟩ := id st'
    exact ⟨_, rfl, go_of (s := { s with heap := h', toks := s.toks + 1 }) e c d (by decide) ⟨.str ⟨#[x.cps[i]]⟩, H, I1, ⟨_, rfl⟩, ⟨rfl, _, hi, rfl⟩, st', fun b hb => (hf b hb).1⟩⟩
  done := by
    intro X hP hw hK hc i pins s σ H E I hf st hg
    subst hP hw hK
    obtain ⟨f0, f1, f2, f3, f4, f5⟩ := hf it (by simp)
    have hg : x.cps.size ≤ i := hg
    exact wpAny_pyNext_ascii_end (I.ok.hd hc) st (by simp; omega) fun h' eb => ⟨rfl, I.turned (t' := s.toks) (fun b o hb e => eb b o hb e) f0 f1 f3 f4 f5⟩
  self := fun _ _ _ _ _ st h => wpAny_pyIter_striter_ascii st h
section
variable {X : Cx} {tg : Expr}
def iStr (tl : TE) : TI := fun σ H R => tl σ H fun v H1 => ∃ x, v = .str x ∧ x.cps.all (· < 128) = true ∧ R (Its x) H1
theorem pi_str {l : Expr} {tl : TE} (hl : PE X l tl) : PI X tg l (iStr tl) := by
  intro pins s σ H R I h
  refine thn (hl pins s σ H _ I h) fun v s1 ⟨y, H1, I1, r1, q1⟩ => ?_
  obtain ⟨x, e, ha, q⟩ := q1
  subst e
  obtain ⟨t, rfl⟩ := r1
  refine wpAny_pyIter_ascii ha ?_
  refine ⟨s1.heap.objs.size, [s1.heap.objs.size], _, _, H1, rfl, I1.kept (t' := s1.toks) fun b o e => Heap.get?_push_of_some _ e, turn_str _ x t, ⟨_, Heap.get?_push_size _ rfl, rfl, rfl⟩, fun b hb => ?_, q⟩
  have e : b = s1.heap.objs.size := by simpa using hb
  subst e
  exact I1.fpOk (Nat.le_refl _) (I1.hok.fresh (Nat.le_refl _))
theorem for_str {x : Str} {g : TG} {tb : TS} {D : Ends} {σ : St} {H : Hp} (Pv : Nat → St → Hp → Prop) (h0 : Pv 0 σ H)
    (hs : ∀ i c σ H, x.cps[i]? = some c → Pv i σ H → g (.str ⟨#[c]⟩) σ H fun σ2 H2 => tb { D with nx := Pv (i + 1), ct := Pv (i + 1), bk := D.nx } σ2 H2) (hd : ∀ σ H, Pv x.cps.size σ H → D.nx σ H) :
    ∃ W : Nat → Nat → St → Hp → Prop, (∃ m, W 0 m σ H) ∧ ∀ i m σ H, W i m σ H →
      ((Its x).stop i H ∧ D.nx σ H) ∨ ((Its x).go i H ∧ ∃ N : St → Hp → Prop, (∀ σ' H', N σ' H' → ∃ m', m' < m ∧ W (i + 1) m' σ' H') ∧ ∀ v H', (Its x).yld i H v H' → g v σ H' fun σ2 H2 => tb { D with nx := N, ct := N, bk := D.nx } σ2 H2) := by
  refine ⟨fun i m σ H => m = x.cps.size - i ∧ i ≤ x.cps.size ∧ Pv i σ H, ⟨x.cps.size, by simp, Nat.zero_le _, h0⟩, ?_⟩
  rintro i m σ H ⟨rfl, hi, p⟩
  by_cases hlt : i < x.cps.size
  · refine .inr ⟨hlt, Pv (i + 1), fun σ' H' p' => ⟨x.cps.size - (i + 1), by omega, rfl, hlt, p'⟩, fun v H' y => ?_⟩
    obtain ⟨e, c, hc, y⟩ := y
    subst e y
    exact hs i c σ _ hc p
  · have e : i = x.cps.size := by omega
    subst e
    exact .inl ⟨Nat.le_refl _, hd σ H p⟩
/-- a text cut -/
def cutS (x : Str) (lo hi : Option Int) : Str := ⟨((x.cps.toList.drop (HT.sIx x.length 0 lo)).take (HT.sIx x.length x.length hi - HT.sIx x.length 0 lo)).toArray⟩
def clp (n : Nat) (d : Int) : Option Int → Int
  | none => d
  | some i => max (0 : Int) (min (if i < 0 then i + (n : Int) else i) (n : Int))
theorem idx_cut (lo hi : Option Int) (n : Nat) : Builtin.Str.strSliceIndices lo hi 1 n = (List.range (HT.sIx n n hi - HT.sIx n 0 lo)).map (fun k => HT.sIx n 0 lo + k) := by
  have cl : ∀ (o : Option Int) (d : Nat), d ≤ n → clp n (d : Int) o = ((HT.sIx n d o : Nat) : Int) := by
    intro o d hd
    cases o with
    | none => rfl
    | some v =>
      show max (0 : Int) (min (if v < 0 then v + (n : Int) else v) (n : Int)) = (((if v < 0 then (v + (n : Int)).toNat else min v.toNat n) : Nat) : Int)
      by_cases h : v < 0
      · rw [if_pos h, if_pos h]; omega
      · rw [if_neg h, if_neg h]; omega
  have a := cl lo 0 (Nat.zero_le _)
  have b := cl hi n (Nat.le_refl _)
  have la := HT.sIx_le n 0 (Nat.zero_le _) lo
  have lb := HT.sIx_le n n (Nat.le_refl _) hi
  have key : Builtin.Str.strSliceIndices lo hi 1 n = sliceRange (clp n ((0 : Nat) : Int) lo) (clp n (n : Int) hi) 1 := by
    cases lo <;> cases hi <;> rfl
  rw [key, a, b]
  generalize HT.sIx n 0 lo = p at *
  generalize HT.sIx n n hi = q at *
  unfold sliceRange
  simp only [show ((1 : Int) > 0) = True from by simp, if_true, Int.ediv_one, Int.one_mul]
  have e : (if (p : Int) < (q : Int) then (q : Int) - (p : Int) + 1 - 1 else 0).toNat = q - p := by split <;> omega
  rw [e]
  exact List.map_congr_left fun k _ => by omega
theorem cut_is (x : Str) (lo hi : Option Int) : (⟨((Builtin.Str.strSliceIndices lo hi 1 x.length).filterMap (x.cps[·]?)).toArray⟩ : Str) = cutS x lo hi := by
  unfold cutS
  rw [idx_cut]
  have la := HT.sIx_le x.length 0 (Nat.zero_le _) lo
  have lb := HT.sIx_le x.length x.length (Nat.le_refl _) hi
  have hl : x.cps.toList.length = x.length := by simp [Str.length]
  by_cases h : HT.sIx x.length 0 lo ≤ HT.sIx x.length x.length hi
  · have := PySem.StrLaws.picks x.cps.toList (HT.sIx x.length x.length hi - HT.sIx x.length 0 lo) (HT.sIx x.length 0 lo) (by omega)
    rw [← this]
    simp
  · have e : HT.sIx x.length x.length hi - HT.sIx x.length 0 lo = 0 := by omega
    rw [e]
    simp
theorem cut_len (x : Str) (lo hi : Option Int) : (cutS x lo hi).length ≤ x.length := by
  unfold cutS Str.length
  simp
  omega
theorem cut_whole {x : Str} {lo hi : Option Int} (h : (Builtin.Str.strSliceIndices lo hi 1 x.length).length = x.length) : cutS x lo hi = x := by
  rw [idx_cut, List.length_map, List.length_range] at h
  have la := HT.sIx_le x.length 0 (Nat.zero_le _) lo
  have lb := HT.sIx_le x.length x.length (Nat.le_refl _) hi
  have hl : x.cps.toList.length = x.length := by simp [Str.length]
  unfold cutS
  rw [h]
  obtain ⟨cps⟩ := x
  congr 1
  by_cases z : Str.length ⟨cps⟩ = 0
  · have e : cps = #[] := Array.eq_empty_of_size_eq_zero z
    rw [e]
    simp
  · have e0 : HT.sIx (Str.length ⟨cps⟩) 0 lo = 0 := by omega
    rw [e0, List.drop_zero, List.take_of_length_le (Nat.le_of_eq hl), Array.toArray_toList]
def rSlStr : V → Option Int → Option Int → Hp → VK → Prop := fun x lo hi H Q => ∃ z, x = .str z ∧ z.length ≤ sizeLine ∧ Q (.str (cutS z lo hi)) H
theorem sl_str : SlR X rSlStr := by
  intro pins s σ H x v vl vu lo hi sl Q I rx hs pl pu h
  obtain ⟨z, rfl, hz, q⟩ := h
  obtain ⟨t, rfl⟩ := rx
  have post : ∀ (l u : Option (Int × Tok)), l.map (·.1) = lo → u.map (·.1) = hi → (sliceMade z t l u none).post (EP X pins σ Q) s := by
    intro l u el eu
    unfold sliceMade slicePicked
    have e1 : (((none : Option (Int × Tok)).map (·.1)).getD 1) = (1 : Int) := rfl
    rw [e1, el, eu]
    split
    · next hw =>
      rw [Bool.and_eq_true, beq_iff_eq, beq_iff_eq] at hw
      rw [cut_whole hw.2] at q
      exact ⟨.str z, H, I, ⟨t, rfl⟩, q⟩
    · refine ⟨?_, ?_⟩
      · rw [cut_is]
        exact Nat.le_trans (cut_len z lo hi) hz
      · rw [cut_is]
        exact ⟨.str _, H, I.tok _, ⟨_, rfl⟩, q⟩
  obtain ⟨os, hos, hcs, hds⟩ := id hs
  cases pl with
  | none =>
    cases pu with
    | none => exact ⟨"str", _, F.slot_str_getitem.lookup, typeIs_str _ _ _, wpAny_getItem_str_slice (l := none) (u := none) (st := none) ⟨os, hos, hcs, hds⟩ rfl (post none none rfl rfl)⟩
    | int j uj => exact ⟨"str", _, F.slot_str_getitem.lookup, typeIs_str _ _ _, wpAny_getItem_str_slice (l := none) (u := some (j, uj)) (st := none) ⟨os, hos, hcs, hds⟩ rfl (post none (some (j, uj)) rfl rfl)⟩
  | int i ui =>
    cases pu with
    | none => exact ⟨"str", _, F.slot_str_getitem.lookup, typeIs_str _ _ _, wpAny_getItem_str_slice (l := some (i, ui)) (u := none) (st := none) ⟨os, hos, hcs, hds⟩ rfl (post (some (i, ui)) none rfl rfl)⟩
    | int j uj => exact ⟨"str", _, F.slot_str_getitem.lookup, typeIs_str _ _ _, wpAny_getItem_str_slice (l := some (i, ui)) (u := some (j, uj)) (st := none) ⟨os, hos, hcs, hds⟩ rfl (post (some (i, ui)) (some (j, uj)) rfl rfl)⟩
/-- a text turned round -/
def revS (x : Str) : Str := ⟨x.cps.toList.reverse.toArray⟩
theorem rev_is (x : Str) : (⟨((Builtin.Str.strSliceIndices none none (-1) x.length).filterMap (x.cps[·]?)).toArray⟩ : Str) = revS x := by
  unfold revS
  rw [PyProof.Rows.picked_rev]
  congr 2
  refine List.ext_getElem? fun i => ?_
  have hl : x.cps.toList.length = x.length := by simp [Str.length]
  have e : ((List.range x.length).map fun k => x.length - 1 - k).filterMap (x.cps[·]?) = (List.range x.length).map fun k => x.cps.getD (x.length - 1 - k) 0 := by
    rw [PyProof.Rows.filterMap_get x.cps _ (fun i hi => by
      obtain ⟨k, hk, rfl⟩ := List.mem_map.mp hi
      have := List.mem_range.mp hk
      show x.length - 1 - k < x.length
      omega), List.map_map]
    rfl
  rw [e]
  by_cases hi : i < x.length
  · rw [List.getElem?_map, List.getElem?_range hi, List.getElem?_reverse (by rw [hl]; exact hi), hl]
    have h2 : x.length - 1 - i < x.cps.size := by show x.length - 1 - i < x.length; omega
    simp [Array.getD, h2]
  · rw [List.getElem?_eq_none (by simp; omega), List.getElem?_eq_none (by rw [List.length_reverse, hl]; omega)]
def tSRev (te : TE) (ts : TO) : TE := fun σ H Q => te σ H fun x H1 => ts σ H1 fun u H2 => ∃ z, x = .str z ∧ u = some (-1) ∧ z.length ≤ sizeLine ∧ Q (.str (revS z)) H2
/-- x[::-1] -/
theorem pe_srev {e st : Expr} {te : TE} {ts : TO} {p2 pos : Pos} (he : PE X e te) (hst : PO X (some st) ts) : PE X (.Subscript e (.Slice none none (some st) p2) pos) (tSRev te ts) := by
  intro pins s σ H Q I h
  refine Subscript_ (thn (he pins s σ H _ I h) fun v s1 ⟨x, H1, I1, r1, q1⟩ => ?_)
  refine wpAny_Slice ?_
  rw [evalPart_none]
  refine wpAny_pure (wpAny_pure ?_)
  refine thn (hst pins s1 σ H1 _ I1 q1) fun vs s3 ⟨o, H3, I3, ps, q3⟩ => ?_
  obtain ⟨z, rfl, rfl, hz, q⟩ := q3
  obtain ⟨t, rfl⟩ := r1
  cases ps with
  | int _ ut =>
  have I4 : Inv X pins σ H3 { s3 with heap := s3.heap.push { cls := .type "slice", data := .fields #[.none, .none, .int (-1) ut] } } := I3.kept (t' := s3.toks) fun b ob q => Heap.get?_push_of_some _ q
  show wpAny (model X.prog X.w) X.A (subscriptTail e (.Slice none none (some st) p2) (.str z t) (.ref s3.heap.objs.size)) (EP X pins σ Q) X.xe { s3 with heap := s3.heap.push { cls := .type "slice", data := .fields #[.none, .none, .int (-1) ut] } }
  refine tail_any (ops := [.str z t, .ref s3.heap.objs.size]) (typeIs_str _ z t) F.slot_str_getitem.lookup (wpAny_getItem_str_slice (l := none) (u := none) (st := some (-1, ut)) ⟨_, Heap.get?_push_size _ rfl, rfl, rfl⟩ rfl ?_) (by with_unfolding_all rfl)
  unfold sliceMade slicePicked
  have e1 : (((some ((-1 : Int), ut)).map (·.1)).getD 1) = (-1 : Int) := rfl
  rw [e1]
  rw [if_neg (by rw [Bool.and_eq_true, beq_iff_eq]; rintro ⟨h, _⟩; exact absurd h (by decide))]
  have er := rev_is z
  refine ⟨?_, ?_⟩
  · show Str.length ⟨((Builtin.Str.strSliceIndices none none (-1) z.length).filterMap (z.cps[·]?)).toArray⟩ ≤ sizeLine
    rw [er]
    have hz : z.cps.size ≤ sizeLine := hz
    unfold revS Str.length
    simpa using hz
  · show EP X pins σ Q (.str ⟨((Builtin.Str.strSliceIndices none none (-1) z.length).filterMap (z.cps[·]?)).toArray⟩ _) _
    rw [er]
    exact ⟨.str _, H3, I4.tok _, ⟨_, rfl⟩, q⟩
end
end L2
namespace L2
open PySem PySem.Spec PyProof.Rows

/-! ### a comprehension whose target is a pair of names -/
structure BlkScope2 (osc : Scope) (N : List Str) (x z : Str) (ys : List Str) (js : List Nat) (sc : Scope) : Prop where
  kind : sc.kind = .function
  nocell : ∀ y ∈ sc.names, y.2 ≠ .cell
  loc : ∀ y ∈ sc.names, y.2 = .local → sc.names.lookup y.1 = some .local
  var : sc.names.lookup x = some .local
  var2 : sc.names.lookup z = some .local
  out : ∀ y ∈ sc.names, y.2 = .free → osc.names.lookup y.1 = some .cell ∨ osc.names.lookup y.1 = some .free
  free : ∀ y ∈ ys, sc.names.lookup y = some .free
  places : js.map (fun j => N[j]?) = ys.map some
  nd : (x :: z :: ys).Nodup
def blkSt2 (js : List Nat) (σ : St) (v v2 : Option V) : St := v :: v2 :: js.map fun j => σ.getD j none

section
variable {X : Cx} {pins : List (Addr × Obj)} {σ : St} {H : Hp} {s : Shared} {x z : Str} {ys : List Str} {js : List Nat} {sc : Scope} {cl : List (Str × Addr)} {fp : List Addr}
theorem blk_ok2 (I : Inv X pins σ H s) (S : BlkScope2 X.env.scope X.N x z ys js sc) (h1 : ∀ y c, cl.lookup y = some c → X.env.cells.lookup y = some c) (h2 : ∀ y ∈ sc.names, y.2 = .free → ∃ c, cl.lookup y.1 = some c)
    (hf : ∀ b ∈ fp, FpOk X pins H b) (hl : ∀ b ∈ fp, b < s.heap.objs.size) : (X.blk (x :: z :: ys) sc cl s.heap.objs.size s H fp).Ok where
  mod := I.ok.mod
  kind := S.kind
  glob := I.ok.glob
  blt := I.ok.blt
  above := Nat.le_refl _
  inj := fun y z c e1 e2 => I.ok.inj y z c (h1 y c e1) (h1 z c e2)
  has := fun y hy => h2 (y, .free) (relabel_back S.nocell hy) rfl
  cab := fun y c e => nomatch e
  hd := I.ok.hd
  frames := I.ok.frames
  stk := .inl rfl
  exf := fun b hb => ⟨Nat.ne_of_lt (hl b hb), fun y c e => (hf b hb).2.2.2.2.1 y c (h1 y c e)⟩
  bs := I.bs
  bsz := Nat.le_trans I.ok.bsz I.sz
  noex := fun b o e hb => by
    rcases (hf b hb).2.2.2.1 with z | z
    · exact I.ok.noex b o e z
    · exact absurd (Nat.lt_of_lt_of_le (Heap.lt_size e) (Nat.le_trans I.ok.bsz z)) (Nat.lt_irrefl _)
  exfs := fun b hb z => by
    rcases List.mem_cons.mp (I.stkSub b z) with q | q
    · exact (hf b hb).2.1 q
    · exact (hf b hb).2.2.1 q
  funs := I.stack
  frf := I.stkFree

theorem blk_start2 {h' : Heap} {t' : Nat} {m : Str → Option Value} (I : Inv X pins σ H s) (S : BlkScope2 X.env.scope X.N x z ys js sc) (h1 : ∀ y c, cl.lookup y = some c → X.env.cells.lookup y = some c) (h2 : ∀ y ∈ sc.names, y.2 = .free → ∃ c, cl.lookup y.1 = some c)
    (hf : ∀ b ∈ fp, FpOk X pins H b) (hl : ∀ b ∈ fp, b < s.heap.objs.size) (hn : h'.Ns s.heap.objs.size m) (hk : ∀ b o, s.heap.get? b = some o → h'.get? b = some o) :
    Inv (X.blk (x :: z :: ys) sc cl s.heap.objs.size s H fp) [] (blkSt2 js σ none none) H { s with heap := h', toks := t' } where
  ok := blk_ok2 I S h1 h2 hf hl
  os := rfl
  bare := I.bare
  base := Un.kept hk
  loc := ⟨m, hn, fun i y v e1 e2 e3 => by
    match i with
    | 0 => cases (show some (none : Option V) = some (some v) from e2)
    | 1 => cases (show some (none : Option V) = some (some v) from e2)
    | i + 2 =>
      have e1 : ys[i]? = some y := e1
      have e2 : (js.map fun j => σ.getD j none)[i]? = some (some v) := e2
      rw [List.getElem?_map] at e2
      cases ej : js[i]? with
      | none => rw [ej] at e2; cases e2
      | some j =>
        rw [ej] at e2
        have e2 : σ.getD j none = some v := Option.some.inj e2
        have e4 : σ[j]? = some (some v) := by
          cases q : σ[j]? with
          | none => rw [List.getD_eq_getElem?_getD, q] at e2; cases e2
          | some u => rw [List.getD_eq_getElem?_getD, q] at e2; rw [← e2]; rfl
        have e5 : X.N[j]? = some y := by
          have q := congrArg (fun l => l[i]?) S.places
          simp only [List.getElem?_map, ej, e1, Option.map_some] at q
          exact Option.some.inj q
        have e6 : (y, NameKind.free) ∈ sc.names := PySem.mem_of_lookup (S.free y (List.mem_of_getElem? e1))
        have e7 := S.out _ e6 rfl
        obtain ⟨m0, _, hl0⟩ := I.loc
        obtain ⟨u, r, lk⟩ := hl0 j y v e5 e4 (e7.elim (fun z => .inr (.inl z)) fun z => .inr (.inr z))
        refine ⟨u, r, .inr ⟨relabel_free (S.free y (List.mem_of_getElem? e1)), ?_⟩⟩
        rcases lk with ⟨k, _⟩ | ⟨_, c, ec, z⟩
        · have k : X.env.scope.names.lookup y = some .local := k
          rcases e7 with z | z <;> (rw [k] at z; cases z)
        · obtain ⟨c', ec'⟩ := h2 _ e6 rfl
          have q := h1 _ _ ec'
          have q : X.env.cells.lookup y = some c' := q
          rw [ec] at q; cases q
          obtain ⟨o, ho, hd⟩ := z
          exact ⟨c, ec', o, hk _ _ ho, hd⟩⟩
  cell := fun y c e => by
    obtain ⟨v, o, ho, hd⟩ := I.cell y c (h1 y c e)
    exact ⟨v, o, hk _ _ ho, hd⟩
  free := I.hok.fresh (Nat.le_refl _)
  freeC := fun y c e => I.freeC y c (h1 y c e)
  pin := fun p hp => absurd (show p ∈ ([] : List (Addr × Obj)) from hp) (by simp)
  hok := I.hok.kept hk
  len := by
    show (none :: none :: js.map fun j => σ.getD j none).length = (x :: z :: ys).length
    have q := congrArg List.length S.places
    simp only [List.length_map] at q
    simp [q]

/-- behind the block -/
theorem blk_end2 {H5 : Hp} {s5 : Shared} {σ5 : St} {pl : List (Addr × Obj)} (I : Inv X pins σ H s) (hf : ∀ b ∈ fp, FpOk X pins H b) (J : Inv (X.blk (x :: z :: ys) sc cl s.heap.objs.size s H fp) pl σ5 H5 s5) :
    Inv X pins σ H5 s5 ∧ FpOk X pins H5 s.heap.objs.size ∧ ∃ oC m, s5.heap.get? s.heap.objs.size = some oC ∧ (∀ h : Heap, h.get? s.heap.objs.size = some oC → h.Ns s.heap.objs.size m) ∧ Inv X (pins ++ [(s.heap.objs.size, oC)]) σ H5 s5 := by
  have I5 : Inv X pins σ H5 s5 := I.call' (ch := fp) J.os J.base J.hok J.bare fun b hb => ⟨(hf b hb).2.2.2.1, (hf b hb).2.1, (hf b hb).2.2.2.2.1, (hf b hb).2.2.2.2.2⟩
  have F5 : FpOk X pins H5 s.heap.objs.size := I.fpOk (Nat.le_refl _) J.free
  obtain ⟨m, ⟨o, es, ep, ho, hd, r⟩, _⟩ := J.loc
  refine ⟨I5, F5, o, m, ho, fun h e => ⟨o, es, ep, e, hd, r⟩, I5.pins_of fun p hp => ?_⟩
  rcases List.mem_append.mp hp with z | z
  · exact I5.pin p (List.mem_append_right _ z)
  · have z : p = (s.heap.objs.size, o) := by simpa using z
    subst z
    exact ⟨ho, J.free, F5.2.1, F5.2.2.1, fun v q => by rw [hd] at q; cases q⟩
end

/-- what such a comprehension's walk wants: each turn a tuple of two -/
def CompBy2 (K : PySem.W.Frag) (js : List Nat) (te : TE) (σ : St) (J : It) (H : Hp) (Fin : Addr → Hp → Prop) : Prop :=
  ∀ D, H D = none → ∃ W : Nat → Nat → List V → Hp → Prop, (∃ m, W 0 m [] (upd H D (.lst []))) ∧ ∀ i m ys H', W i m ys H' → H' D = some (.lst ys) ∧
    ((J.stop i H' ∧ Fin D H') ∨ (J.go i H' ∧ ∃ N : List V → Hp → Prop, (∀ zs H'', N zs H'' → ∃ m', m' < m ∧ W (i + 1) m' zs H'') ∧ ∀ v H2, J.yld i H' v H2 → ∃ T a b, v = .ref T ∧ SqT K H2 T [a, b] ∧
      te (blkSt2 js σ (some a) (some b)) H2 fun y H4 => H4 D = some (.lst ys) ∧ ys.length < sizeLine ∧ N (ys ++ [y]) (upd H4 D (.lst (ys ++ [y])))))

section
variable {X : Cx} {pins : List (Addr × Obj)} {σ : St} {H : Hp} {s : Shared} {x z : Str} {ys : List Str} {js : List Nat} {sc : Scope} {cl : List (Str × Addr)} {fp : List Addr}
theorem comp_block2 {elt iter : Expr} {px pz pt pos : Pos} {tk : Nat} {te : TE} {J : It} {it : Addr} {tn : Nat → Heap → Prop} {Fin : Addr → Hp → Prop} {E : Value → Shared → Prop} {RR : Value → Addr → Result → Shared → Prop}
    (hc : X.calm = true) (I : Inv X pins σ H s) (S : BlkScope2 X.env.scope X.N x z ys js sc) (h1 : ∀ y c, cl.lookup y = some c → X.env.cells.lookup y = some c) (h2 : ∀ y ∈ sc.names, y.2 = .free → ∃ c, cl.lookup y.1 = some c)
    (T : Turn X.prog X.w X.K (.Tuple [.Name x px, .Name z pz] tk pt) J fp it tn) (st : tn 0 s.heap) (hf : ∀ b ∈ fp, FpOk X pins H b)
    (he : ∀ cl C s H ex, PE (X.blk (x :: z :: ys) sc cl C s H ex) elt te)
    (hw : CompBy2 X.K js te σ J H Fin)
    (hRR : ∀ D C oC m s5 H5, Inv X pins σ H5 s5 → FpOk X pins H5 C → s5.heap.get? C = some oC → (∀ h : Heap, h.get? C = some oC → h.Ns C m) → Inv X (pins ++ [(C, oC)]) σ H5 s5 → Fin D H5 → RR (.ref D) C (.ok .next) s5) :
    wpAny (model X.prog X.w) X.A (newList []) (fun acc s₃ => wpAny (model X.prog X.w) X.A (newFunctionEnv sc X.env.globals cl [] X.env.qual none .none (some X.env)) (fun cenv s₄ =>
      codeAny (model X.prog X.w) X.A (.compStart (.ListComp elt [⟨.Tuple [.Name x px, .Name z pz] tk pt, iter, [], 0⟩] sc pos) 0 (.ref it) acc { cenv with scope := relabel sc X.env }) (RR acc cenv.locals) s₄) E s₃) E s := by
  refine wpAny_newObj_type (wpAny_newFunctionEnv S.nocell (by intro y hy; simp at hy) (fun h₁ hns₁ hsb₁ => ?_) S.kind)
  have hD : H s.heap.objs.size = none := I.hok.fresh (Nat.le_refl _)
  have I1 : Inv X pins σ (upd H s.heap.objs.size (.lst [])) { s with heap := s.heap.push { cls := .type "list", dict := none, data := .seq ([] : List Value).toArray }, toks := s.toks } :=
    I.laid (t' := s.toks) (fun b u e => Heap.get?_push_of_some _ e) (Nat.le_refl _) ⟨Nat.zero_le _, [], 0, .nil, Heap.get?_push_size _ rfl⟩
  have hfl : ∀ b ∈ fp, b < s.heap.objs.size := fun b hb => by
    obtain ⟨o, e, _⟩ := T.obj 0 _ st b hb
    exact Heap.lt_size e
  generalize hs1 : ({ s with heap := s.heap.push { cls := .type "list", dict := none, data := .seq ([] : List Value).toArray }, toks := s.toks } : Shared) = s1 at I1
  have sz1 : s1.heap.objs.size = s.heap.objs.size + 1 := by rw [← hs1]; exact Heap.size_push _ _
  have old : ∀ b o, s.heap.get? b = some o → s1.heap.get? b = some o := fun b o e => by rw [← hs1]; exact Heap.get?_push_of_some _ e
  rw [hs1] at hns₁ hsb₁
  try rw [hs1]
  have hf1 : ∀ b ∈ fp, FpOk X pins (upd H s.heap.objs.size (.lst [])) b := fun b hb => ⟨by rw [upd_ne (Nat.ne_of_lt (hfl b hb))]; exact (hf b hb).1, (hf b hb).2⟩
  have hfl1 : ∀ b ∈ fp, b < s1.heap.objs.size := fun b hb => by rw [sz1]; exact Nat.lt_succ_of_lt (hfl b hb)
  have old1 : ∀ b o, s1.heap.get? b = some o → h₁.get? b = some o := fun b o e => hsb₁.extBut b o (Nat.ne_of_lt (Heap.lt_size e)) (Heap.get?_push_of_some _ e)
  have I2 := blk_start2 (t' := s1.toks + ([] : List (Str × Value)).length) I1 S h1 h2 hf1 hfl1 hns₁ old1
  have st2 : tn 0 h₁ := T.keep 0 _ _ st fun b _ o e => old1 b o (old b o e)
  obtain ⟨W, ⟨m0, w0⟩, turn⟩ := hw s.heap.objs.size hD
  have fr0 : ∀ b ∈ fp, (upd H s.heap.objs.size (.lst [])) b = none := fun b hb => (hf1 b hb).1
  have stat : ∀ {H' : Hp} {pl : List (Addr × Obj)}, (∀ b ∈ fp, H' b = none) → (∀ b ∈ fp, ∀ p ∈ pl, p.1 ≠ b) → ∀ b ∈ fp, FpOk (X.blk (x :: z :: ys) sc cl s1.heap.objs.size s1 (upd H s.heap.objs.size (.lst [])) fp) pl H' b := fun hn hp b hb =>
    ⟨hn b hb, (I2.ok.exf b hb).1, I2.ok.exfs b hb, .inl hb, (I2.ok.exf b hb).2, fun p hpp => hp b hb p (by simpa [Cx.blk] using hpp)⟩
  have loop : codeAny (model X.prog X.w) X.A (.compLoop (.ListComp elt [⟨.Tuple [.Name x px, .Name z pz] tk pt, iter, [], 0⟩] sc pos) 0 (.ref it) (.ref s.heap.objs.size) (compEnvC sc cl s1.heap.objs.size X.env)) (RR (.ref s.heap.objs.size) s1.heap.objs.size)
      { s1 with heap := h₁, toks := s1.toks + ([] : List (Str × Value)).length } := by
    refine PyProof.Rows.LCp.codeAny_compLoop_pair (fun n s' => ∃ i zs H', Inv (X.blk (x :: z :: ys) sc cl s1.heap.objs.size s1 (upd H s.heap.objs.size (.lst [])) fp) [] (blkSt2 js σ none none) H' s' ∧ tn i s'.heap ∧ (∀ b ∈ fp, H' b = none) ∧ W i n zs H') ?_ m0 ⟨0, [], _, I2, st2, fr0, w0⟩
    rintro n s3 ⟨i, zs, H3, I3, st3, fr3, w3⟩
    obtain ⟨hD3, tr⟩ := turn i n zs H3 w3
    rcases tr with ⟨stop, fin⟩ | ⟨go, N, hN, step⟩
    · refine thn (T.done (X.blk (x :: z :: ys) sc cl s1.heap.objs.size s1 (upd H s.heap.objs.size (.lst [])) fp) rfl rfl rfl hc i [] s3 _ H3 _ I3 (stat fr3 (fun _ _ _ z => nomatch z)) st3 stop) fun r s4 ⟨hr, I4⟩ => ?_
      subst hr
      obtain ⟨I5, F5, oC, m, ho, hns, I6⟩ := blk_end2 I1 hf1 I4
      exact hRR _ _ oC m _ _ I5 F5 ho hns I6 fin
    · refine thn (T.item (X.blk (x :: z :: ys) sc cl s1.heap.objs.size s1 (upd H s.heap.objs.size (.lst [])) fp) rfl rfl rfl hc i [] s3 _ H3 _ I3 (stat fr3 (fun _ _ _ z => nomatch z)) st3 go) fun r s4 ⟨u, hr, h4⟩ => ?_
      subst hr
      refine thn h4 fun _ s5 ⟨v, H5, I5, r5, y5, st5, fr5⟩ => ?_
      have I5' := I5.pinned (stat fr5 (fun _ _ _ z => nomatch z)) (T.obj _ _ st5)
      obtain ⟨Ta, a, b, ev, hq, step⟩ := step v H5 y5
      have lx : Vis (X.blk (x :: z :: ys) sc cl s1.heap.objs.size s1 (upd H s.heap.objs.size (.lst [])) fp).env.scope x := .inl (lookup_relabel_local S.var)
      have tgt := pg_tup (X := X.blk (x :: z :: ys) sc cl s1.heap.objs.size s1 (upd H s.heap.objs.size (.lst [])) fp) (pos := pt) (k := tk) (n := 2) hc
        (pgs_cons (pg_name (i := 0) (pos := px) S.nd rfl (.inl (lookup_relabel_local S.var)) (.inr (lookup_relabel_local S.var))) (pgs_cons (pg_name (i := 1) (pos := pz) S.nd rfl (.inl (lookup_relabel_local S.var2)) (.inr (lookup_relabel_local S.var2))) pgs_nil))
      refine wpAny_mono (tgt _ s5 _ H5 v u (fun σ' H' => σ' = blkSt2 js σ (some a) (some b) ∧ H' = H5) I5' r5 ⟨Ta, _, ev, hq, rfl, a, [b], rfl, b, [], rfl, rfl, rfl, rfl⟩)
        (fun _ s6 ⟨σ6, H6, I6, e6, e7⟩ => ?_) (fun _ _ z => nomatch z)
      subst e6; subst e7
      have again : ∀ {σ8 : St} {H8 : Hp} {s8 : Shared} {zs' : List V}, Inv (X.blk (x :: z :: ys) sc cl s1.heap.objs.size s1 (upd H s.heap.objs.size (.lst [])) fp) ([] ++ pinsAt fp s5.heap) (blkSt2 js σ (some a) (some b)) H8 s8 → N zs' H8 →
          ∃ m, m < n ∧ ∃ i zs H', Inv (X.blk (x :: z :: ys) sc cl s1.heap.objs.size s1 (upd H s.heap.objs.size (.lst [])) fp) [] (blkSt2 js σ none none) H' s8 ∧ tn i s8.heap ∧ (∀ b ∈ fp, H' b = none) ∧ W i m zs H' := by
        intro σ8 H8 s8 zs' I8 n8
        obtain ⟨m', hm, w8⟩ := hN _ _ n8
        refine ⟨m', hm, i + 1, zs', H8, (Inv.unpinned I8).weak rfl (fun k w e => ?_), T.keep _ _ _ st5 fun b hb o e => (I8.pin (b, o) (List.mem_append_right _ (List.mem_append_right _ (mem_pinsAt hb e)))).1, fun b hb => ?_, w8⟩
        · match k with
          | 0 => cases (show some (none : Option V) = some (some w) from e)
          | 1 => cases (show some (none : Option V) = some (some w) from e)
          | k + 2 => exact e
        · obtain ⟨o, e, d⟩ := T.obj _ _ st5 b hb
          exact (I8.pin (b, o) (List.mem_append_right _ (List.mem_append_right _ (mem_pinsAt hb e)))).2.1
      refine wpAny_mono (he _ _ _ _ _ _ s6 _ _ _ I6 step) (fun u8 s8 ⟨y8, H8, I8, r8, hD8, hz8, q8⟩ => ?_) (fun _ _ z => nomatch z)
      refine wpAny_mono (mt_append (X := X.blk (x :: z :: ys) sc cl s1.heap.objs.size s1 (upd H s.heap.objs.size (.lst [])) fp) _ s8 _ H8 (.ref s.heap.objs.size) [y8] (.ref s.heap.objs.size) [u8] (fun _ H9 => H9 = upd H8 s.heap.objs.size (.lst (zs ++ [y8]))) I8 rfl (.cons r8 .nil)
        ⟨_, zs, y8, rfl, rfl, hD8, hz8, rfl⟩) (fun _ s9 ⟨_, H9, I9, _, e9⟩ => ?_) (fun _ _ z => nomatch z)
      subst e9
      exact again (σ8 := []) I9 q8
  exact codeAny_compStart_list loop (T.self X.A 0 _ _ _ st2 loop)
end

/-- [elt for x, z in iter if ..] -/
def tComp2 (K : PySem.W.Frag) (wi : TI) (js : List Nat) (te : TE) : TE := fun σ H Q => wi σ H fun J H1 => CompBy2 K js te σ J H1 fun D H2 => Q (.ref D) H2
section
variable {X : Cx} {elt iter : Expr} {x z : Str} {ys : List Str} {js : List Nat} {sc : Scope} {px pz pt pos : Pos} {tk : Nat} {wi : TI} {te : TE}
theorem pe_comp2 (S : BlkScope2 X.env.scope X.N x z ys js sc) (hc : X.calm = true) (hi : PI X (.Tuple [.Name x px, .Name z pz] tk pt) iter wi) (he : ∀ cl C s H ex, PE (X.blk (x :: z :: ys) sc cl C s H ex) elt te)
    (hs : ∀ v, foldedSetIterable iter X.env v = pure v := by intro _; rfl) : PE X (.ListComp elt [⟨.Tuple [.Name x px, .Name z pz] tk pt, iter, [], 0⟩] sc pos) (tComp2 X.K wi js te) := by
  intro pins s σ H Q I h
  obtain ⟨cl, ecl, h1, h2⟩ := closure_ok (fun y hy hf => I.ok.has y.1 (S.out y hy hf))
  rw [eval_ListComp]
  refine wpAny_comprehension_free (use := none) rfl hs ecl S.kind S.loc (thn (hi pins s σ H _ I h) fun v s1 hv => thn hv fun itv s2 h2' => ?_)
  obtain ⟨it, fp, tn, J, H2, e, I2, T, st2, f2, q2⟩ := h2'
  subst e
  refine comp_block2 (RR := fun acc C => compPost (model X.prog X.w) X.A X.xe none (EP X pins σ Q) acc C) hc I2 S h1 h2 T st2 f2 he q2 ?_
  intro D C oC m s5 H5 I5 F5 ho hns I6 fin
  refine ⟨m, hns _ ho, fun h' hs' => ⟨.ref D, H5, ?_, rfl, fin⟩⟩
  exact I5.turned (t' := s5.toks) (fun b o hb e => hs'.extBut b o hb e) F5.1 F5.2.1 F5.2.2.2.1 F5.2.2.2.2.1 F5.2.2.2.2.2
end
end L2
namespace L2
open PySem PySem.Spec PyProof.Rows
/-! ### exceptions of own classes: raised, passing a frame, caught -/
/-- an exception in flight: its object, its traceback's head -/
def Fly (h : Heap) (a T : Addr) (cls : Value) : Prop :=
  ∃ oe vs a0 oT ts, h.get? a = some oe ∧ oe.cls = cls ∧ vs[0]? = some a0 ∧ oe.data = .fields vs ∧ vs[1]? = some (.ref T) ∧ T ≠ a ∧ h.get? T = some oT ∧ oT.data = .fields ts ∧ ts[3]? = some .none
/-- how an exception lies behind a call -/
def CXE (P : Program) (w : World) : CXT := fun outer H s E e s' =>
  ∃ (a T : Addr) (cls : Value) (H' : Hp), e = .ref a ∧ s'.os = s.os ∧ AllBare s'.gens ∧ Un (frs outer) [] H H' s.heap s'.heap ∧ HOk P w H' s'.heap ∧ H' a = none ∧ H' T = none ∧ s.heap.get? a = none ∧ s.heap.get? T = none ∧ Fly s'.heap a T cls ∧ E cls none H'
theorem funs_of {h base B : Heap} : ∀ {l : List Env}, h.FunFrames base l → (∀ b ∈ frs l, B.get? b = none) → h.FunFrames B l
  | [], _, _ => trivial
  | env :: l, ⟨k, ⟨L, o, hf, _, ho, hd⟩, r⟩, hb => by
    have e : frs (env :: l) = L :: frs l := by
      unfold frs
      rw [List.filterMap_cons, hf]
    rw [e] at hb
    exact ⟨k, ⟨L, o, hf, hb L (List.mem_cons_self ..), ho, hd⟩, funs_of r fun b z => hb b (List.mem_cons_of_mem _ z)⟩
theorem ok_there {P : Program} {w : World} {H : Hp} {h : Heap} {a : Addr} : ∀ {o : HO}, ObjOk P w H h a o → ∃ ob, h.get? a = some ob
  | .lst _, x => let ⟨_, _, _, _, e⟩ := x; ⟨_, e⟩
  | .tup _, x => let ⟨_, _, _, o, e, _⟩ := x; ⟨o, e⟩
  | .dK _, x => let ⟨_, _, _, _, o, _, _, e, _⟩ := x; ⟨o, e⟩
  | .dT _, x => let ⟨_, _, _, _, o, _, _, e, _⟩ := x; ⟨o, e⟩
  | .set _ _, x => let ⟨o, _, _, _, e, _⟩ := x; ⟨o, e⟩
  | .ins _ _ _, x => let ⟨_, _, _, e, _⟩ := x; ⟨_, e⟩
  | .own _, x => x
  | .xd _, x => let ⟨_, ⟨o, _, _, e, _⟩, _⟩ := x; ⟨o, e⟩
  | .rng _ _, x => let ⟨_, _, _, e⟩ := x; ⟨_, e⟩
  | .frz o _, x => ⟨o, x.1⟩
  | .tbl _, x => ⟨_, x⟩
  | .met _ _, x => ⟨_, x⟩
  | .ext _, x => x.2.1
section
variable {X : Cx} {pins : List (Addr × Obj)} {σ : St} {H : Hp} {s : Shared} {a T : Addr} {cls : Value} {h' : Heap}
/-- what stays when only the objects of the exception and the frames' slots change -/
structure Stays (X : Cx) (xs : List Addr) (h h' : Heap) : Prop where
  keep : ∀ b o, b ∉ xs → b ∉ frs X.stack → h.get? b = some o → h'.get? b = some o
  slot : ∀ b o, b ∈ frs X.stack → h.get? b = some o → ∃ sl, h'.get? b = some { o with slots := sl }
theorem Inv.notFr (I : Inv X pins σ H s) {b : Addr} {o : Obj} {vs : Array Value} (e : s.heap.get? b = some o) (hd : o.data = .fields vs) : b ∉ frs X.stack := fun m => by
  obtain ⟨_, o', e', n⟩ := I.stack.mem m
  rw [e] at e'
  cases e'
  exact n vs hd
/-- the abstract heap behind it -/
theorem Inv.stays_hok (I : Inv X pins σ H s) {xs : List Addr} (st : Stays X xs s.heap h') (hx : ∀ b ∈ xs, H b = none) : HOk X.prog X.w H h' := fun b u e => by
  refine (I.hok b u e).stay (fun c v hc q => ?_) (fun _ q => q) fun _ _ q => q
  have tracked : H c ≠ none := by
    rcases hc with z | z
    · rw [z, e]; exact fun q => nomatch q
    · rw [z]; exact fun q => nomatch q
  exact st.keep c v (fun m => tracked (hx c m)) (fun m => tracked (I.stkFree c m)) q
theorem Inv.stays_un (I : Inv X pins σ H s) (hex : X.ex = []) {xs : List Addr} (st : Stays X xs s.heap h') (hx : ∀ b ∈ xs, X.s₀.heap.get? b = none) (hstk : X.stack = X.env :: X.outer ∧ X.env.frame = some X.env.locals) : Un X.fs [] X.H₀ H X.s₀.heap h' := by
  have I0 := I.base
  rw [hex] at I0
  have fr : frs X.stack = X.env.locals :: X.fs := by
    rw [hstk.1]
    unfold frs
    rw [List.filterMap_cons, hstk.2]
    rfl
  have old : ∀ b o, X.s₀.heap.get? b = some o → b ∉ xs ∧ b ≠ X.env.locals := fun b o e => by
    refine ⟨fun m => (by rw [hx b m] at e; cases e), fun z => ?_⟩
    have := Heap.lt_size e
    rw [z] at this
    exact absurd this (Nat.not_lt.mpr I.ok.above)
  have step : ∀ b o, X.s₀.heap.get? b = some o → ∀ o', s.heap.get? b = some o' → b ∉ X.fs → h'.get? b = some o' := fun b o e o' e' hb => by
    refine st.keep b o' (old b o e).1 ?_ e'
    rw [fr]
    intro m
    rcases List.mem_cons.mp m with z | z
    · exact (old b o e).2 z
    · exact hb z
  refine ⟨fun b o e n hb hx' => step b o e o (I0.keep b o e n hb hx') hb, fun b o e n hb hx' => ?_, fun b o e n hx' => I0.free b o e n hx', fun b o e hx' => ?_, I0.tups, I0.frzs, I0.tbls⟩
  · obtain ⟨sl, e1⟩ := I0.slot b o e n hb hx'
    obtain ⟨sl2, e2⟩ := st.slot b _ (by rw [fr]; exact List.mem_cons_of_mem _ hb) e1
    exact ⟨sl2, e2⟩
  · obtain ⟨o', e1⟩ := I0.there b o e hx'
    by_cases hb : b ∈ X.fs
    · obtain ⟨sl2, e2⟩ := st.slot b _ (by rw [fr]; exact List.mem_cons_of_mem _ hb) e1
      exact ⟨_, e2⟩
    · exact ⟨o', step b o e o' e1 hb⟩
theorem Inv.new0 (I : Inv X pins σ H s) (hex : X.ex = []) {b : Addr} (e : s.heap.get? b = none) : X.s₀.heap.get? b = none := by
  cases q : X.s₀.heap.get? b with
  | none => rfl
  | some o =>
    have h0 := I.base
    rw [hex] at h0
    obtain ⟨o', e'⟩ := h0.there b o q (by simp)
    rw [e] at e'
    cases e'
/-- the heap that is sure to stay: all but these and the frames -/
theorem left_stays (I : Inv X pins σ H s) {xs : List Addr} {e : Addr} {cls a0 : Value} (hstk : X.stack = X.env :: X.outer) (lf : Heap.LeftW (PySem.W.hideAll s.heap (xs ++ frs X.stack)) (X.env :: X.outer) e cls a0 s.heap h') : Stays X xs s.heap h' where
  keep := fun b o h1 h2 q => lf.1 b o (PySem.W.hideAll_get _ q fun m => (List.mem_append.mp m).elim h1 h2)
  slot := fun b o hb q => by
    obtain ⟨_, o', e', n⟩ := I.stack.mem hb
    rw [q] at e'
    cases e'
    exact lf.2.2.2 b o q n
theorem Inv.fresh_of (I : Inv X pins σ H s) {b : Addr} (e : s.heap.get? b = none) : H b = none := by
  cases q : H b with
  | none => rfl
  | some u =>
    obtain ⟨o, ho⟩ := ok_there (I.hok b u q)
    rw [e] at ho
    cases ho
theorem Inv.left (I : Inv X pins σ H s) (hex : X.ex = []) (hstk : X.stack = X.env :: X.outer ∧ X.env.frame = some X.env.locals) {xs : List Addr} {E : XK} {a : Addr} {cls a0 : Value} (hxs : ∀ b ∈ xs, H b = none) (hx0 : ∀ b ∈ xs, X.s₀.heap.get? b = none) (ha : a ∈ xs)
    (hE : E cls none H) (lf : Heap.LeftW (PySem.W.hideAll s.heap (xs ++ frs X.stack)) (X.env :: X.outer) a cls a0 s.heap h') : CXE X.prog X.w X.outer X.H₀ X.s₀ E (.ref a) { s with heap := h' } := by
  have st := left_stays I hstk.1 lf
  obtain ⟨oe, vs, T, oT, ts, e1, ⟨ec, e0⟩, ed, e2, nT, nTa, eT, edT, e3⟩ := lf.2.2.1
  have Tfr : T ∉ frs X.stack := fun m => by
    rw [hstk.1] at m
    obtain ⟨_, o', e', n⟩ := lf.2.1.mem m
    rw [eT] at e'
    cases e'
    exact n ts edT
  have TT : H T = none ∧ X.s₀.heap.get? T = none := by
    cases q : s.heap.get? T with
    | none => exact ⟨I.fresh_of q, I.new0 hex q⟩
    | some o =>
      by_cases m : T ∈ xs
      · exact ⟨hxs T m, hx0 T m⟩
      · have := PySem.W.hideAll_get (xs ++ frs X.stack) q fun z => (List.mem_append.mp z).elim m Tfr
        rw [nT] at this
        cases this
  exact ⟨a, T, cls, H, rfl, I.os, I.bare, I.stays_un hex st hx0 hstk, I.stays_hok st hxs, hxs a ha, TT.1, hx0 a ha, TT.2, ⟨oe, vs, a0, oT, ts, e1, ec, e0, ed, e2, nTa, eT, edT, e3⟩, hE⟩
theorem Inv.hid (I : Inv X pins σ H s) (hstk : X.stack = X.env :: X.outer) (xs : List Addr) : s.heap.FunFrames (PySem.W.hideAll s.heap (xs ++ frs X.stack)) (X.env :: X.outer) := by
  rw [← hstk]
  exact funs_of I.stack fun b hb => PySem.W.hideAll_none _ (List.mem_append_right _ hb)
/-- an exception that was just made leaves the frame -/
theorem leave_first {E : XK} {oe : Obj} {vs : Array Value} {a0 : Value} (I : Inv X pins σ H s) (hex : X.ex = []) (hstk : X.stack = X.env :: X.outer ∧ X.env.frame = some X.env.locals) (ha : s.heap.get? a = some oe) (hd : oe.data = .fields vs) (h1 : vs[1]? = some .none) (h0 : vs[0]? = some a0)
    (hn : H a = none) (n0 : X.s₀.heap.get? a = none) (hE : E oe.cls none H) :
    wpAny (model X.prog X.w) X.A (leaving X.env (.ref a)) (fun _ s'' => CXE X.prog X.w X.outer X.H₀ X.s₀ E (.ref a) s'') (fun e' s'' => CXE X.prog X.w X.outer X.H₀ X.s₀ E e' s'') s := by
  have one : ∀ b ∈ [a], b = a := fun b hb => List.mem_singleton.mp hb
  refine wpAny_leaving_firstW (base := PySem.W.hideAll s.heap ([a] ++ frs X.stack)) (by rw [I.ok.frames, hstk.1]) (I.hid hstk.1 [a]) hstk.2 ha (fun b o e => PySem.W.of_hideAll _ e) (PySem.W.hideAll_none _ (by simp)) hd h1 h0 fun h' lf => ?_
  exact I.left hex hstk (fun b hb => by rw [one b hb]; exact hn) (fun b hb => by rw [one b hb]; exact n0) (by simp) hE lf
/-- an exception passes the frame -/
theorem leave_next {E : XK} (I : Inv X pins σ H s) (hex : X.ex = []) (hstk : X.stack = X.env :: X.outer ∧ X.env.frame = some X.env.locals) (fl : Fly s.heap a T cls)
    (hn : H a = none) (hnT : H T = none) (n0 : X.s₀.heap.get? a = none) (nT : X.s₀.heap.get? T = none) (hE : E cls none H) :
    wpAny (model X.prog X.w) X.A (leaving X.env (.ref a)) (fun _ s'' => CXE X.prog X.w X.outer X.H₀ X.s₀ E (.ref a) s'') (fun e' s'' => CXE X.prog X.w X.outer X.H₀ X.s₀ E e' s'') s := by
  obtain ⟨oe, vs, a0, oT, ts, e1, ec, e0, ed, e2, nTa, eT, edT, e3⟩ := fl
  have two : ∀ b ∈ [a, T], b = a ∨ b = T := fun b hb => by simpa using hb
  refine wpAny_leaving_nextW (base := PySem.W.hideAll s.heap ([a, T] ++ frs X.stack)) (cls := cls) (a0 := a0) (by rw [I.ok.frames, hstk.1]) (I.hid hstk.1 [a, T]) hstk.2 ⟨oe, vs, T, oT, ts, e1, ⟨ec, e0⟩, ed, e2, PySem.W.hideAll_none _ (by simp), nTa, eT, edT, e3⟩ (fun b o e => PySem.W.of_hideAll _ e) (PySem.W.hideAll_none _ (by simp)) fun h' lf => ?_
  refine I.left hex hstk (fun b hb => ?_) (fun b hb => ?_) (by simp) hE lf
  · rcases two b hb with z | z <;> rw [z] <;> assumption
  · rcases two b hb with z | z <;> rw [z] <;> assumption
/-- behind a call that raised -/
theorem Inv.behind {E : XK} {e : Value} {s' : Shared} (I : Inv X pins σ H s) (c : CXE X.prog X.w X.stack H s E e s') :
    ∃ (a T : Addr) (cls : Value) (H' : Hp), e = .ref a ∧ Inv X pins σ H' s' ∧ H' a = none ∧ H' T = none ∧ s.heap.get? a = none ∧ s.heap.get? T = none ∧ Fly s'.heap a T cls ∧ E cls none H' := by
  obtain ⟨a, T, cls, H', ee, os, bare, un, hok, r⟩ := c
  obtain ⟨hh, g, d, t, os'⟩ := s'
  obtain rfl : os' = s.os := os
  exact ⟨a, T, cls, H', ee, I.call (h' := hh) (g' := g) (d' := d) (t' := t) (ch := []) un hok bare (fun b z => absurd z (by simp)), r⟩
/-- the facts of an own exception class -/
theorem exc_obj {K : PySem.W.Frag} {h : Heap} {C : Addr} {bmB : List Value} {newId : String} (X : K.In h) (q : PySem.W.excIn K C bmB newId = true) :
    ∃ bm N nm q bs hdct sn sub ab col dd k0 k1 k2 k3 k5 mN, h.get? C = some (excClassObj nm q C N bs bm hdct sn sub ab col dd k0 k1 k2 k3 k5 newId) ∧ h.Ns N mN ∧ mN "__init__" = none ∧ OwnTail h bmB bm := by
  unfold PySem.W.excIn at q
  split at q
  · rename_i dd cd sl ho
    split at q
    · rename_i C' bm k0 k1 k2 k3 n k5 hm hs
      simp only [Bool.and_eq_true, beq_iff_eq, Bool.not_eq_true'] at q
      obtain ⟨⟨⟨⟨⟨rfl, rfl⟩, hdel⟩, ht⟩, hok⟩, hni⟩ := q
      obtain ⟨nm, bs, mro, ns, qn, hd, sn, sub, ab, col, del⟩ := cd
      dsimp only at hm hdel hok hni
      subst hm hdel
      have hsl : sl = #[k0, k1, k2, k3, some (.builtin n), k5] := by
        obtain ⟨l⟩ := sl
        have hs : l = _ := hs
        rw [hs]
      subst hsl
      exact ⟨bm, ns, nm, qn, bs, hd, sn, sub, ab, col, dd, k0, k1, k2, k3, k5, _, X _ _ ho, .of_isNs (PySem.W.isNs_of_in X hok), PySem.W.nsMap_none_of_in X hok hni, PySem.W.tail_of_in X ht⟩
    · cases q
  · cases q
end
/-- raise C(e) -/
def tRaise (C : Addr) (E : XK) (ta : TE) : TS := fun _ σ H => ta σ H fun _ H1 => E (.ref C) none H1
theorem ps_raise {X : Cx} {E : XK} {C : Addr} {x : Str} {e₀ : Expr} {ta : TE} {np cpos pos : Pos} {bmB : List Value} {B newId initId : String} (hc : X.calm = true) (hex : X.ex = []) (hstk : X.stack = X.env :: X.outer ∧ X.env.frame = some X.env.locals)
    (hxe : ∀ e s', wpAny (model X.prog X.w) X.A (leaving X.env e) (fun _ s'' => CXE X.prog X.w X.outer X.H₀ X.s₀ E e s'') (fun e' s'' => CXE X.prog X.w X.outer X.H₀ X.s₀ E e' s'') s' → X.xe e s')
    (hg : Gl X x) (hm : X.mg x = some (.ref C)) (q : PySem.W.excIn X.K C bmB newId = true) (FB : ExcBaseFacts B newId initId bmB) (he₀ : PE X e₀ ta) (he : starEach [e₀] X.env = [(false, eval e₀ X.env)] := by rfl) (hdb : (x == ("__debug__" : Str)) = false := by decide) :
    PS X (.Raise (some (.Call (.Name x np) [e₀] [] cpos)) none pos) (tRaise C E ta) := by
  intro pins s σ H D I h
  obtain ⟨tl, N, nm, qn, bs, hdct, sn, sub, ab, col, dd, k0, k1, k2, k3, k5, mN, hC, hN, hni, TL⟩ := exc_obj I.mod.kin q
  refine wpAny_Raise_call_subT (C := C) (nm := nm) (q := qn) (N := N) (bs := bs) (bm := tl) (hdct := hdct) (sn := sn) (sub := sub) (ab := ab) (col := col) (dd := dd) (k0 := k0) (k1 := k1) (k2 := k2) (k3 := k3) (k5 := k5)
    FB (mN := mN) (TL.hasType FB.hasBase) (I.ok.hd hc) (by rw [he]; rfl) hni (ld_glob I hg hm ⟨rfl, ?_⟩ hdb)
  rw [he]
  show wpAny _ _ (evalArgs (.ref C) true ((false, eval e₀ X.env) :: backTo cpos (starEach [] X.env)) []) _ _ s
  refine Calls.evalArgs_plain (Calls.spliced_cons (thn (he₀ pins s σ H _ I h) fun u s2 ⟨v, H2, I2, rv, q2⟩ => Calls.spliced_nil ⟨rfl, show 1 ≤ sizeLine by decide, I2.bk _ _ hC, hN.keeps I2.bk, TL.keeps I2.bk, fun h' e mk => ?_⟩))
  have I3 : Inv X pins σ H2 { s2 with heap := h' } := I2.kept (t' := s2.toks) mk.keeps
  obtain ⟨t, ht, _, _⟩ := mk.there
  exact hxe _ _ (leave_first I3 hex hstk ht rfl rfl rfl (I2.fresh_of mk.new) (I2.new0 hex mk.new) q2)
/-- THE RULE for a def that raises -/
theorem Fun.okX {P : Program} {w : World} {K : PySem.W.Frag} {mg : Str → Option Value} {base : Heap} {x qual : Str} {st : Stmt} {f : Addr} {fd : FuncData} {N ps : List Str} {k : Nat} {sp : Sp} (F : Fun K x qual st f fd) (S : FnScope N ps (defScope st)) (len : ∀ vs H Q E, sp vs H Q E → vs.length = ps.length)
    (hbody : ∀ (cdv : Value) (A : Around) (outer : List Env) (s : Shared) (H : Hp) (vs : List V) (Q : VK) (E : XK), Room k (A.deeper (envOfC qual (defScope st) s.heap.objs.size f cdv)) → sp vs H Q E →
      ∃ t, PSs (cxOf (CXE P w) P w K mg base N qual (defScope st) f cdv A outer s H E) (defBody st) t ∧ t { nx := fun _ H' => Q .non H', rt := Q } (start N vs) H) : FnOk P w K mg base (CXE P w) (k + 1) f fd ps sp := by
  obtain ⟨oc, od, kV, doc, pm, an, cdv, ct, osl, rfl, lk, hcd⟩ := F.ex
  exact fn_of lk hcd S len fun A outer s H vs Q E hr hsp => hbody cdv A outer s H vs Q E hr hsp
end L2
namespace L2
open PySem PySem.Spec PyProof.Rows
/-- a def of the text that may raise -/
def HasX (P : Program) (w : World) (K : PySem.W.Frag) (mg : Str → Option Value) (base : Heap) (k : Nat) (x : Str) (ps : List Str) (sp : Sp) : Prop :=
  ∃ (f : Addr) (fd : FuncData), FnOk P w K mg base (CXE P w) k f fd ps sp ∧ mg x = some (.ref f) ∧ PySem.W.keepIn K (.ref f) = true ∧ Binds K fd ps []
section
variable {X : Cx} {pins : List (Addr × Obj)} {σ : St} {H : Hp} {s : Shared} {h' : Heap} {a T : Addr} {oe : Obj}
theorem run_callX {W : Value → Shared → Prop} {k : Nat} {x : Str} {ps : List Str} {sp : Sp} {p pos : Pos} {e : Expr} {es : List Expr} {t : TA} {Q : VK} {E : XK} (C : HasX X.prog X.w X.K X.mg X.base k x ps sp) (hr : Room k X.A) (hg : Gl X x) (ha : PA (X.wish W) (e :: es) t)
    (I : Inv X pins σ H s) (h : t σ H fun vs H1 => sp vs H1 Q E) (hx : ∀ H1 s1 e' s', Inv X pins σ H1 s1 → CXE X.prog X.w X.stack H1 s1 E e' s' → W e' s')
    (hdb : (x == ("__debug__" : Str)) = false := by decide) (he : starEach (e :: es) X.env = (false, eval e X.env) :: starEach es X.env := by rfl) (hpl : (backTo pos (starEach es X.env)).any (·.1) = false := by rfl) :
    wpAny (model X.prog X.w) X.A (eval (.Call (.Name x p) (e :: es) [] pos) X.env) (EP X pins σ Q) W s := by
  obtain ⟨f, fd, F, hm, hk, hb⟩ := C
  refine wpAny_Call_Name_kw (ld_glob (X := X.wish W) (I.wish W) hg hm ?_ hdb)
  refine PySem.W.callWith_K (h₀ := X.base) I.ok.mod.kin hk (thn (ha pos pins s σ H _ (I.wish W) h) fun us s1 ⟨vs, H1, I1, r, q⟩ => ⟨I1.kIn, ?_⟩) he hpl
  have I1 := I1.unwish
  have hl : us.length = ps.length := by rw [← r.length]; exact F.len _ _ _ _ q
  have bt := hb s1 us I1.kIn (by rw [List.append_nil]; exact hl)
  rw [List.append_nil] at bt
  refine wpAny_call (codeAny_mono (F.run X.A X.stack s1 H1 ⟨us, []⟩ us vs Q E hr I1.env0 bt r q) fun r s' hq => ?_)
  cases r with
  | error e => exact hx H1 s1 e s' I1 hq
  | ok fl =>
    cases fl with
    | ret u => exact I1.after hq
    | next => exact False.elim hq
    | brk => exact False.elim hq
    | cont => exact False.elim hq
theorem frs_stk (hstk : X.stack = X.env :: X.outer ∧ X.env.frame = some X.env.locals) : frs X.stack = X.env.locals :: X.fs := by
  rw [hstk.1]
  unfold frs
  rw [List.filterMap_cons, hstk.2]
  rfl
/-- over a heap in which only xs and the frames' slots are other -/
theorem Inv.stays {t' : Nat} {xs : List Addr} (I : Inv X pins σ H s) (hex : X.ex = []) (hcl : X.env.cells = []) (hstk : X.stack = X.env :: X.outer ∧ X.env.frame = some X.env.locals) (st : Stays X xs s.heap h') (hx : ∀ b ∈ xs, H b = none) (hx0 : ∀ b ∈ xs, X.s₀.heap.get? b = none)
    (hp : ∀ p ∈ X.pn ++ pins, p.1 ∉ xs) : Inv X pins σ H { s with heap := h', toks := t' } := by
  have fr := frs_stk hstk
  refine ⟨I.ok, I.os, I.bare, ?_, ?_, fun x c e => ?_, I.free, I.freeC, fun p hp' => ?_, I.stays_hok st hx, I.len⟩
  · have := I.stays_un hex st hx0 hstk
    rw [hex]
    exact this
  · obtain ⟨m, hn, hl⟩ := I.loc
    obtain ⟨o, es, ep, ho, hd, r⟩ := hn
    obtain ⟨sl, e1⟩ := st.slot _ o (by rw [fr]; exact List.mem_cons_self ..) ho
    refine ⟨m, ⟨_, es, ep, e1, hd, r⟩, fun i x v f1 f2 f3 => ?_⟩
    obtain ⟨u, ru, lk⟩ := hl i x v f1 f2 f3
    refine ⟨u, ru, ?_⟩
    rcases lk with z | ⟨z, c, ec, hc⟩
    · exact .inl z
    · rw [hcl] at ec; cases ec
  · rw [hcl] at e; cases e
  · obtain ⟨q1, q2, q3, q4, q5⟩ := I.pin p hp'
    refine ⟨st.keep p.1 p.2 (hp p hp') (fun m => ?_) q1, q2, q3, q4, q5⟩
    rw [fr] at m
    rcases List.mem_cons.mp m with z | z
    · exact q3 z
    · exact q4 z
/-- the context of an except suite: the exception is at a -/
def Cx.hnd (X : Cx) (a : Addr) (oe : Obj) : Cx := { X with A := X.A.mark (some (.ref a)), calm := false, xe := fun _ _ => False, pn := X.pn ++ [(a, oe)] }
theorem Inv.hnd (I : Inv X pins σ H s) (ha : s.heap.get? a = some oe) (hn : H a = none) (hL : a ≠ X.env.locals) (hf : a ∉ X.fs) (hc : ∀ v, oe.data ≠ .cell v) : Inv (X.hnd a oe) pins σ H s := by
  refine ⟨⟨I.ok.mod, I.ok.kind, I.ok.glob, I.ok.blt, I.ok.above, I.ok.inj, I.ok.has, I.ok.cab, (fun z => nomatch z), I.ok.frames, I.ok.stk, I.ok.exf, I.ok.bs, I.ok.bsz, I.ok.noex, I.ok.exfs, I.ok.funs, I.ok.frf⟩, I.os, I.bare, I.base, I.loc, I.cell, I.free, I.freeC, fun p hp => ?_, I.hok, I.len⟩
  have hp : p ∈ (X.pn ++ [(a, oe)]) ++ pins := hp
  rcases List.mem_append.mp hp with z | z
  · rcases List.mem_append.mp z with z | z
    · exact I.pin p (List.mem_append_left _ z)
    · rw [List.mem_singleton.mp z]
      exact ⟨ha, hn, hL, hf, hc⟩
  · exact I.pin p (List.mem_append_right _ z)
theorem Inv.unhnd (I : Inv (X.hnd a oe) pins σ H s) (ok : X.Ok) : Inv X pins σ H s :=
  ⟨ok, I.os, I.bare, I.base, I.loc, I.cell, I.free, I.freeC, fun p hp => I.pin p (show p ∈ (X.pn ++ [(a, oe)]) ++ pins from (List.mem_append.mp hp).elim (fun z => List.mem_append_left _ (List.mem_append_left _ z)) fun z => List.mem_append_right _ z), I.hok, I.len⟩
/-- the names' values are forgotten -/
theorem Inv.names {t' : Nat} {m' : Str → Option Value} (I : Inv X pins σ H s) (hn : h'.Ns X.env.locals m') (hs : Heap.SameBut X.env.locals s.heap h') : Inv X pins (List.replicate X.N.length none) H { s with heap := h', toks := t' } := by
  have lt0 : ∀ b o, X.s₀.heap.get? b = some o → b ≠ X.env.locals := fun b o e => Nat.ne_of_lt (Nat.lt_of_lt_of_le (Heap.lt_size e) I.ok.above)
  refine ⟨I.ok, I.os, I.bare, ⟨fun b o e n hb hx => ?_, fun b o e n hb hx => ?_, I.base.free, fun b o e hx => ?_, I.base.tups, I.base.frzs, I.base.tbls⟩, ⟨m', hn, fun j y v e1 e2 e3 => ?_⟩, fun y c e => ?_, I.free, I.freeC, fun p hp => ?_, fun b u e => ?_, List.length_replicate⟩
  · exact (hs.2 b (lt0 b o e)).trans (I.base.keep b o e n hb hx)
  · obtain ⟨sl, e1⟩ := I.base.slot b o e n hb hx
    exact ⟨sl, (hs.2 b (lt0 b o e)).trans e1⟩
  · obtain ⟨o', e1⟩ := I.base.there b o e hx
    exact ⟨o', (hs.2 b (lt0 b o e)).trans e1⟩
  · rw [List.getElem?_replicate] at e2
    split at e2 <;> cases e2
  · obtain ⟨v, o, ho, hd⟩ := I.cell y c e
    exact ⟨v, o, (hs.2 c (I.cne y c e)).trans ho, hd⟩
  · obtain ⟨q1, q2, q3, q4, q5⟩ := I.pin p hp
    exact ⟨(hs.2 _ q3).trans q1, q2, q3, q4, q5⟩
  · refine (I.hok b u e).stay (fun c w' hc q => (hs.2 c ?_).trans q) (fun _ q => q) fun _ _ q => q
    rintro rfl
    rcases hc with rfl | hc
    · rw [I.free] at e; cases e
    · rw [I.free] at hc; cases hc
end
/-- try: f(..) except C as n: .. -/
def tTryCall (K : PySem.W.Frag) (sp : Sp) (ta : TA) (i len : Nat) (CT : Value) (ts : Addr → Value → TS) : TS := fun D σ H => ta σ H fun vs H1 => sp vs H1 (fun _ H2 => D.nx σ H2) fun cls _ H2 =>
  PySem.W.exmOne K cls CT = some true ∧ ∀ a, H2 a = none → ts a cls { nx := fun _ H3 => D.nx (List.replicate len none) H3, rt := D.rt, bk := fun _ H3 => D.bk (List.replicate len none) H3, ct := fun _ H3 => D.ct (List.replicate len none) H3 } (σ.set i (some (.ref a))) H2
theorem ps_tryCall {X : Cx} {k i : Nat} {x c n : Str} {ps : List Str} {sp : Sp} {p np cpos xpos hpos tpos : Pos} {e : Expr} {es : List Expr} {ta : TA} {C : Addr} {b₀ : Stmt} {suite : List Stmt} {ts : Addr → Value → TS} (hc : X.calm = true) (hex : X.ex = []) (hcl : X.env.cells = [])
    (hstk : X.stack = X.env :: X.outer ∧ X.env.frame = some X.env.locals) (Cf : HasX X.prog X.w X.K X.mg X.base k x ps sp) (hr : Room k X.A) (hg : Gl X x) (ha : ∀ W, PA (X.wish W) (e :: es) ta) (hgc : Gl X c) (hmc : X.mg c = some (.ref C)) (hN : X.N.Nodup) (hi : X.N[i]? = some n) (hn : X.env.scope.names.lookup n = some .local)
    (hs : ∀ a oe cls, oe.cls = cls → PSs (X.hnd a oe) (b₀ :: suite) (ts a cls)) (hdb : (x == ("__debug__" : Str)) = false := by decide) (hdc : (c == ("__debug__" : Str)) = false := by decide) (he : starEach (e :: es) X.env = (false, eval e X.env) :: starEach es X.env := by rfl) (hpl : (backTo cpos (starEach es X.env)).any (·.1) = false := by rfl)
    (hsw : swapsWith (.Call (.Name x p) (e :: es) [] cpos) none xpos.line X.env = pure false := by rfl) :
    PS X (.Try [.Expr (.Call (.Name x p) (e :: es) [] cpos) xpos] [.ExceptHandler (some (.Name c np)) (some n) (b₀ :: suite) hpos] [] [] tpos) (tTryCall X.K sp ta i X.N.length (.ref C) ts) := by
  intro pins s σ H D I h
  have fr := frs_stk hstk
  refine wpAny_Try_except (wpAny_execs_cons (wpAny_Expr_any (thn (run_callX (Q := fun _ H2 => D.nx σ H2) Cf hr hg (ha _) I h (fun H1 s1 e' s' I1 cx => ?_) hdb he hpl) fun v s1 ⟨y, H1, I1, r1, q1⟩ => ?_) I.quiet hsw))
  · obtain ⟨a, T, cls, H', ee, I2, ha0, hT0, na, nT, fl, hm, hts⟩ := I1.behind cx
    subst ee
    have n0a := I1.new0 hex na
    have n0T := I1.new0 hex nT
    have two : ∀ b ∈ [a, T], b = a ∨ b = T := fun b hb => by simpa using hb
    have un : ∀ b ∈ [a, T], H' b = none := fun b hb => by rcases two b hb with z | z <;> rw [z] <;> assumption
    have u0 : ∀ b ∈ [a, T], X.s₀.heap.get? b = none := fun b hb => by rcases two b hb with z | z <;> rw [z] <;> assumption
    have pn : ∀ p ∈ X.pn ++ pins, p.1 ∉ [a, T] := fun p hp m => by
      have := (I1.pin p hp).1
      rcases two _ m with z | z
      · rw [z, na] at this; cases this
      · rw [z, nT] at this; cases this
    have kf : X.A.frames = some (X.env :: X.outer) := by rw [I.ok.frames, hstk.1]
    obtain ⟨oe, vs, a0, oT, tvs, f1, fc, f0, fd, f2, nTa, fT, fdT, f3⟩ := fl
    have FL : Heap.FlyingW (PySem.W.hideAll s'.heap ([a, T] ++ frs X.stack)) (X.env :: X.outer) a cls a0 s'.heap :=
      ⟨fun b o q => PySem.W.of_hideAll _ q, PySem.W.hideAll_none _ (by simp), I2.hid hstk.1 [a, T], oe, vs, T, oT, tvs, f1, ⟨fc, f0⟩, fd, f2, PySem.W.hideAll_none _ (by simp), nTa, fT, fdT, f3⟩
    have stay : ∀ h5, (PySem.W.hideAll s'.heap ([a, T] ++ frs X.stack)).StaysIn h5 → s'.heap.UpToSlots h5 → Stays X [a, T] s'.heap h5 := fun h5 k1 k2 =>
      ⟨fun b o b1 b2 q => k1 b o (PySem.W.hideAll_get _ q fun m => (List.mem_append.mp m).elim b1 b2), fun b o hb q => by
        obtain ⟨_, o', e', nf⟩ := I2.stack.mem hb
        rw [q] at e'
        cases e'
        exact k2 b o q nf⟩
    refine wpAny_looks_onW kf hstk.2 FL fun h4 held4 up4 => wpAny_landsW held4 fun h5 fl5 up5 => ?_
    have J5 : Inv X pins σ H' { s' with heap := h5 } := I2.stays (t' := s'.toks) hex hcl hstk (stay h5 fl5.1 (up4.trans up5)) un u0 pn
    obtain ⟨ob, hob, hobc⟩ := fl5.there
    have dat5 : ∃ ws, ob.data = .fields ws := by
      obtain ⟨_, _, _, oe5, ws, _, _, _, g1, _, g2, _⟩ := fl5
      rw [g1] at hob
      cases hob
      exact ⟨ws, g2⟩
    have aL : a ≠ X.env.locals := fun z => by
      obtain ⟨m, ⟨o, es, ep, ho, hd, _⟩, _⟩ := J5.loc
      obtain ⟨ws, hw⟩ := dat5
      rw [z] at hob
      have := hob.symm.trans ho
      cases this
      rw [hw] at hd
      cases hd
    have afs : a ∉ X.fs := fun m => by
      obtain ⟨_, o, ho, _⟩ := I1.ok.funs.mem m
      rw [n0a] at ho
      cases ho
    have ncell : ∀ (ob : Obj), (∃ ws, ob.data = .fields ws) → ∀ v, ob.data ≠ .cell v := fun ob ⟨ws, hw⟩ v q => by rw [hw] at q; cases q
    have JH5 := J5.hnd hob ha0 aL afs (ncell ob dat5)
    refine wpAny_handleBy_cons (codeAny_handlers_test (ld_glob (X := X.hnd a ob) JH5 hgc hmc ?_ hdc)) (by intro q; cases q)
    have LT : PySem.W.Looks (model X.prog X.w) h5 (typeOf (.ref a)) cls := by
      rw [← hobc]
      exact (PySem.W.Looks.ld hob).andThen .now
    refine (PySem.W.exm_one (JH5.kIn) LT hm).here ?_
    show codeAny _ _ (.handlers (.ref a) [.ExceptHandler none (some n) (b₀ :: suite) hpos] X.env) _ _
    refine codeAny_handlers_suite_as (lands_againW fl5 fun h6 fl6 up6 => ?_)
    have J6 : Inv X pins σ H' { s' with heap := h6 } := I2.stays (t' := s'.toks) hex hcl hstk (stay h6 fl6.1 ((up4.trans up5).trans up6)) un u0 pn
    obtain ⟨oc, hoc, hocc⟩ := fl6.there
    have dat6 : ∃ ws, oc.data = .fields ws := by
      obtain ⟨_, _, _, oe6, ws, _, _, _, g1, _, g2, _⟩ := fl6
      rw [g1] at hoc
      cases hoc
      exact ⟨ws, g2⟩
    have JH6 := J6.hnd hoc ha0 aL afs (ncell oc dat6)
    refine store_ok (X := X.hnd a oc) (i := i) JH6 hN hi (.inl hn) (v := .ref a) (u := .ref a) rfl (fun s7 J7 => ?_) (.inr hn)
    refine wpAny_mono (hs a oc cls hocc pins s7 _ H' _ J7 (hts a ha0)) (fun f s8 q8 => ?_) fun _ _ z => nomatch z
    have hp : (X.env.scope.kind == .class || (X.env.scope.kind == .module && X.env.locals != X.env.globals)) = false := by rw [I.ok.kind]; rfl
    have fin : ∀ {σ8 : St} {H8 : Hp}, Inv (X.hnd a oc) pins σ8 H8 s8 → (∀ s9, Inv X pins (List.replicate X.N.length none) H8 s9 → SP X pins D f s9) → wpAny (model X.prog X.w) X.A (do bindName X.env n .none; unbindBehindTheSuite X.env n hpos) (fun _ s9 => SP X pins D f s9) X.xe s8 := by
      intro σ8 H8 J8 go
      have J8 := J8.unhnd I.ok
      obtain ⟨m, hm8, _⟩ := J8.loc
      exact wpAny_nameGoes hn hm8 hp fun h9 m9 hn9 hs9 => go _ (J8.names hn9 hs9)
    cases f with
    | next => obtain ⟨σ8, H8, J8, q⟩ := q8; exact fin J8 fun s9 J9 => ⟨_, H8, J9, q⟩
    | brk => obtain ⟨σ8, H8, J8, q⟩ := q8; exact fin J8 fun s9 J9 => ⟨_, H8, J9, q⟩
    | cont => obtain ⟨σ8, H8, J8, q⟩ := q8; exact fin J8 fun s9 J9 => ⟨_, H8, J9, q⟩
    | ret u => obtain ⟨v, σ8, H8, J8, rv, q⟩ := q8; exact fin J8 fun s9 J9 => ⟨v, _, H8, J9, rv, q⟩
  · exact wpAny_execs_nil (wpAny_execs_nil ⟨σ, H1, I1, q1⟩)
/-- f(..), f may raise, but does not here -/
theorem pe_callX {X : Cx} {k : Nat} {x : Str} {ps : List Str} {sp : Sp} {p pos : Pos} {e : Expr} {es : List Expr} {t : TA} (C : HasX X.prog X.w X.K X.mg X.base k x ps sp) (hr : Room k X.A) (hg : Gl X x) (ha : PA X (e :: es) t)
    (hdb : (x == ("__debug__" : Str)) = false := by decide) (he : starEach (e :: es) X.env = (false, eval e X.env) :: starEach es X.env := by rfl) (hpl : (backTo pos (starEach es X.env)).any (·.1) = false := by rfl) : PE X (.Call (.Name x p) (e :: es) [] pos) (tCallH sp t) :=
  fun pins s σ H Q I h => run_callX (W := X.xe) C hr hg ha I h (fun H1 s1 e' s' I1 cx => by
    obtain ⟨a, T, cls, H', _, _, _, _, _, _, _, _, hE⟩ := I1.behind cx) hdb he hpl
end L2
namespace PySem.W
open PySem PySem.Spec PySem.Calls PyProof.Rows PySem.Builtin PySem.Builtin.ObjectAttr PySem.Builtin.Getset_descriptor
/-! ### isinstance of an exception of an own class -/
section
variable {prog : Program} {w : World} {A : Around} {E : Value → Shared → Prop} {s : Shared} {K : Frag} {x C : Addr} {R : Result → Shared → Prop}
theorem xc_get {tp : Value} (X : K.In s.heap) (T : ∀ M, Looks M s.heap (typeOf (.ref x)) (.ref C)) (hm : mroIn K C (.type "object") = some true) (h : R (.ok (.ret (.ref C))) s) :
    codeAny (model prog w) A (.call (.builtin "getset_descriptor.__get__") ⟨[.builtin "object.__class__", .ref x, tp], []⟩) R s := by
  obtain ⟨hh, g, dr, t, os⟩ := s
  have L0 := T (model prog w)
  have L1 := looks_mroIn (M := model prog w) X hm
  refine codeAny_call_builtin KF.slot_gs.plain KF.entry_gs (KF.slot_gs.check _ _ _ _ _ _ _ _ KF.type_class (KF.args_gs _ _ _) ?_)
  unfold Builtin.«getset_descriptor.__get__» descrGet
  rw [dga_obj]
  refine wpAny_bind (wpAny_pure ?_)
  unfold descrGetter descrCheckInstance descrNameAndClass isInstance
  simp only [KF.owner_class]
  repeat lk
  refine ⟨Code.quiet_builtin _ (by decide +kernel), codeAny_builtin KF.entry_class ?_⟩
  unfold Builtin.«object.__class__» shownTypeOf
  repeat lk
  exact h
theorem xc_find {M : Model} {h : Heap} (X : K.In h) (ha : findIn K (.ref C) "__class__" = some (some (.builtin "object.__class__"))) (hn : specialIn K (.builtin "object.__class__") "__get__" = some (some (.builtin "getset_descriptor.__get__")))
    (htk : takesIn K (.builtin "object.__class__") = some true) : Looks M h (find (.ref x) (.ref C) "__class__") (.bind (.builtin "getset_descriptor.__get__") (.builtin "object.__class__")) := by
  have L1 := looks_findIn (M := M) X ha
  have L2 : Looks M h (getOf (some (.builtin "object.__class__"))) (some (.builtin "getset_descriptor.__get__")) := looks_specialIn X hn
  have L3 := looks_takesIn (M := M) X htk
  refine L1.andThen (L2.andThen ?_)
  exact (show Looks M h (dataDescriptor? (some (.builtin "object.__class__")) (some (.builtin "getset_descriptor.__get__"))) (some (.builtin "getset_descriptor.__get__", .builtin "object.__class__")) from L3.andThen .now).andThen (Looks.tag .now)
/-- what of an exception's class must be seen -/
structure XcOk (K : Frag) (C : Addr) : Prop where
  cl : (clsIn K C).isSome = true
  ga : findIn K (.ref C) "__getattribute__" = some (some (.builtin "BaseException.__getattribute__"))
  noga : findIn K (.ref C) "__getattr__" = some none
  ca : findIn K (.ref C) "__class__" = some (some (.builtin "object.__class__"))
  get : specialIn K (.builtin "object.__class__") "__get__" = some (some (.builtin "getset_descriptor.__get__"))
  tk : takesIn K (.builtin "object.__class__") = some true
  mo : mroIn K C (.type "object") = some true
  mb : mroIn K C (.type "BaseException") = some true
theorem xc_entry {tk : Tok} {Q : Fin → Shared → Prop} (X : K.In s.heap) (T : ∀ M, Looks M s.heap (typeOf (.ref x)) (.ref C)) (O : XcOk K C) (h : Q (.done (.ret (.ref C))) s) : wpAny (model prog w) A (Builtin.«object.__getattribute__» ⟨[.ref x, .str "__class__" tk], []⟩) Q E s := by
  obtain ⟨hh, g, d, t, os⟩ := s
  have L0 := T (model prog w)
  have L1 : Looks (model prog w) hh (find (.ref x) (.ref C) "__class__") (.bind (.builtin "getset_descriptor.__get__") (.builtin "object.__class__")) := xc_find X O.ca O.get O.tk
  refine wpAny_bind (wpAny_pure (wpAny_bind (wpAny_pure (wpAny_bind (L0.at (wpAny_bind (L1.at ?_)))))))
  show wpAny _ _ (holding [.builtin "object.__class__"] (call (.builtin "getset_descriptor.__get__") [.builtin "object.__class__", .ref x, .ref C]) >>= ret) _ _ _
  exact wpAny_bind (wpAny_holding (wpAny_call (xc_get (s := ⟨hh, g, d, t, os⟩) X T O.mo (wpAny_pure h))))
theorem xc_call {tk : Tok} (X : K.In s.heap) (T : ∀ M, Looks M s.heap (typeOf (.ref x)) (.ref C)) (O : XcOk K C) (h : R (.ok (.ret (.ref C))) s) : codeAny (model prog w) A (.call (.builtin "BaseException.__getattribute__") ⟨[.ref x, .str "__class__" tk], []⟩) R s := by
  refine codeAny_call_builtin (by decide +kernel) F.entry_bexc_ga ?_
  have hk : builtinKind "BaseException.__getattribute__" = some .slot := by decide +kernel
  have hsp : splitId "BaseException.__getattribute__" = some ("BaseException", "__getattribute__") := by decide +kernel
  have ag := F.args_bexc_ga (.ref x) (.str "__class__" tk)
  have LI : Looks (model prog w) s.heap (isInstance (.ref x) (.type "BaseException")) true := (T _).andThen (looks_mroIn X O.mb)
  have fin := xc_entry (prog := prog) (w := w) (A := A.in1) (tk := tk) (Q := fun fin s' => match fin with | .done f => R (.ok f) s' | .again c' => c'.quiet = true ∧ codeAny (model prog w) A c' R s') (E := fun e s' => R (.error e) s') X T O h
  simp only [checkBuiltinCall, hk, hsp]
  obtain ⟨hh, g, d, t, os⟩ := s
  refine wpAny_bind (LI.at ?_)
  rw [if_neg (by decide)]
  cases hsig : Manifest.signature? "BaseException.__getattribute__" with
  | none => exact wpAny_pure fin
  | some sig =>
    have ag' : Bind.checkArgs "BaseException.__getattribute__" sig ⟨[.ref x, .str "__class__" tk], []⟩ = pure () := by simpa only [argsOk, hsig] using ag
    show wpAny _ _ (Bind.checkArgs _ sig _) _ _ _
    rw [ag']
    exact wpAny_pure fin
theorem xc_attr {Q : Option Value → Shared → Prop} (X : K.In s.heap) (T : ∀ M, Looks M s.heap (typeOf (.ref x)) (.ref C)) (O : XcOk K C) (h : Q (some (.ref C)) { s with toks := s.toks + 1 }) : wpAny (model prog w) A (getAttr? (.ref x) "__class__") Q E s := by
  obtain ⟨hh, g, d, t, os⟩ := s
  have L0 := T (model prog w)
  have L1 := looks_findIn (M := model prog w) X O.ga
  have L2 := looks_findIn (M := model prog w) X O.noga
  have ne : (onTheHeap (Value.ref C) && Value.builtin "BaseException.__getattribute__" == Value.builtin "object.__getattribute__") = false := by
    rw [show (Value.builtin "BaseException.__getattribute__" == Value.builtin "object.__getattribute__") = false by decide +kernel, Bool.and_false]
  unfold getAttr? getAttrBy? getAttrBy
  refine wpAny_bind (wpAny_mkText (wpAny_bind (wpAny_attempt (wpAny_holding (wpAny_bind (L0.at (wpAny_bind (L1.at ?_))))))))
  show wpAny _ _ (if (onTheHeap (Value.ref C) && Value.builtin "BaseException.__getattribute__" == Value.builtin "object.__getattribute__") = true then _ else _) _ _ _
  rw [if_neg (by rw [ne]; exact Bool.false_ne_true)]
  unfold getAttrByItsOwn
  refine wpAny_bind (L2.at ?_)
  refine wpAny_bind (wpAny_attempt (wpAny_holding ?_))
  show wpAny _ _ (bindSpecial (.builtin "BaseException.__getattribute__") (.ref x) >>= fun gf => call gf.1 (gf.2 ++ [.str "__class__" t])) _ _ _
  rw [F.excAttr_ValueError.ga.bind (.ref x), pure_bind]
  refine wpAny_call (xc_call (s := ⟨hh, g, d, t + 1, os⟩) X T O ?_)
  exact handed_on rfl (wpAny_pure h)
/-- isinstance answers by the class -/
theorem kitx_exc {oe : Obj} (hc : oe.cls = .ref C) (O : XcOk K C) : KitX K (.ref x) (.ref C) (fun h => h.get? x = some oe) where
  ty := fun M h _ p => hc ▸ (Looks.ld p).andThen .now
  it := fun M h X _ => by
    obtain ⟨cd, hcD⟩ := Option.isSome_iff_exists.mp O.cl
    unfold clsIn at hcD
    split at hcD
    · rename_i c' d' cd' sl' ho
      intro A' Q' E' s' k q
      unfold isType loadHead
      exact wpAny_bind (wpAny_loadPart (k _ _ (X _ _ ho)) (wpAny_pure q))
    · cases hcD
  ne := fun h tp dd its n sl X htp => by
    obtain ⟨cd, hcD⟩ := Option.isSome_iff_exists.mp O.cl
    refine Bool.eq_false_iff.mpr fun q => ?_
    have e : C = tp := Value.ref.inj (beq_iff_eq.mp q)
    subst e
    unfold clsIn at hcD
    split at hcD
    · rename_i c' d' cd' sl' ho
      have z := (X _ _ ho).symm.trans htp
      cases z
    · cases hcD
  ca := fun X p k => xc_attr X (fun M => hc ▸ (Looks.ld p).andThen .now) O k
end
end PySem.W
namespace L2
open PySem PySem.Spec PyProof.Rows
def clsV : V → Option Value
  | .ref C => some (.ref C)
  | .ty n => some (.type n)
  | _ => none
theorem clsV_rel {v : V} {c u : Value} (h : clsV v = some c) (r : RelV v u) : u = c := by
  cases v with
  | ref C => cases h; exact r
  | ty n => cases h; exact r
  | _ => cases h
/-- isinstance(e, C), isinstance(e, (C, ..)), e the exception that is caught -/
def rIsX (K : PySem.W.Frag) (a : Addr) (cls : Value) : List V → Hp → VK → Prop := fun xs H Q => ∃ C c, cls = .ref C ∧ PySem.W.XcOk K C ∧ xs = [.ref a, c] ∧ ((∃ u b, clsV c = some u ∧ PySem.W.kitOne K cls u = some b ∧ Q (.bl b) H) ∨
  ∃ tp cs us b, c = .ref tp ∧ H tp = some (.tup cs) ∧ cs.map clsV = us.map some ∧ PySem.W.kitAny K cls us = some b ∧ Q (.bl b) H)
theorem call_isX {X : Cx} {a : Addr} {oe : Obj} {cls : Value} (hcl : oe.cls = cls) : CallR (X.hnd a oe) (.builtin "isinstance") (rIsX X.K a cls) := by
  intro pins s σ H xs us Q I r h
  obtain ⟨C, c, hC, O, rfl, h⟩ := h
  have hc : oe.cls = .ref C := hcl.trans hC
  cases r with
  | cons ra r =>
    cases r with
    | cons rc r =>
      cases r
      cases ra
      have pin := (I.pin (a, oe) (List.mem_append_left _ (List.mem_append_right _ (List.mem_singleton.mpr rfl)))).1
      rw [hC] at h
      rcases h with ⟨u, b, hu, hk, q⟩ | ⟨tp, cs, us, b, rfl, ht, hm, hk, q⟩
      · rw [clsV_rel hu rc]
        exact PySem.W.kia_one (PySem.W.kitx_exc hc O) I.kIn pin hk (fun z => nomatch z) fun tk => ⟨.bl b, H, I.tok _, rfl, q⟩
      · cases rc
        obtain ⟨z, its, rv, o, h1, h2, n, h3⟩ := (show ObjOk X.prog X.w H s.heap tp (.tup cs) from I.hok tp _ ht)
        have ei : its = us := by
          have gen : ∀ {cs : List V} {its us : List Value}, Vals cs its → cs.map clsV = us.map some → its = us := by
            intro cs its us r
            induction r generalizing us with
            | nil => intro e; cases us with | nil => rfl | cons _ _ => cases e
            | cons r t ih =>
              intro e
              cases us with
              | nil => cases e
              | cons u us =>
                rw [List.map_cons, List.map_cons] at e
                rw [clsV_rel (List.cons.inj e).1 r, ih (List.cons.inj e).2]
          exact gen rv hm
        subst ei
        obtain ⟨c', d', dt', sl'⟩ := o
        replace h2 : c' = .type "tuple" := h2
        replace h3 : dt' = .seq its.toArray n := h3
        subst h2 h3
        exact PySem.W.kia_tup (PySem.W.kitx_exc hc O) I.kIn pin h1 hk (fun z => nomatch z) fun tk => ⟨.bl b, H, I.tok _, rfl, q⟩
end L2
namespace L2
open PySem PySem.Spec PyProof.Rows
/-! ### a dict whose keys are tuples of ints and texts, each of them tracked or the module's own -/
abbrev KX := List (List Key × Addr × V)
def dxOk (w : World) (a : Addr) (kvs : KX) (h : Heap) : Prop :=
  kvs.length ≤ sizeLine ∧ (a == sysModules) = false ∧ ∃ xs : List (List Key × Addr × Value), Paired (fun p q => p.1 = q.1 ∧ p.2.1 = q.2.1 ∧ RelV p.2.2 q.2.2) kvs xs ∧
    ∃ o es ep, h.get? a = some o ∧ o.ExactDict ∧ o.data = .dict es ep ∧ (∀ P : Program, es.toList = xs.map (entryOfKey (tupleKind (mixKind P w)))) ∧ (xs.map (·.1)).Nodup
def dX (w : World) (a : Addr) (kvs : KX) : HO := .ext (dxOk w a kvs)
def KeysOk (K : PySem.W.Frag) (H : Hp) (kvs : KX) : Prop := ∀ q ∈ kvs, SqT K H q.2.1 (q.1.map kV)
def atX (kvs : KX) (k : List Key) : Option V := (kvs.find? fun q => decide (q.1 = k)).map (·.2.2)
def putX (kvs : KX) (k : List Key) (b : Addr) (v : V) : KX := if (atX kvs k).isSome then kvs.map (fun q => if q.1 = k then (q.1, q.2.1, v) else q) else kvs ++ [(k, b, v)]
theorem putX_new {kvs : KX} {k : List Key} (h : atX kvs k = none) (b : Addr) (v : V) : putX kvs k b v = kvs ++ [(k, b, v)] := by unfold putX; rw [h]; rfl
theorem key_is {P : Program} {w : World} {k : Key} {u : Value} (r : RelV (kV k) u) : (mixKind P w).is k u = true := by
  cases k with
  | inl i => obtain ⟨t, e⟩ := (show ∃ t, u = Value.int i t from r); subst e; exact mixKind_int P w i t
  | inr x => obtain ⟨t, e⟩ := (show ∃ t, u = Value.str x t from r); subst e; exact mixKind_str P w x t
theorem keys_are {P : Program} {w : World} : ∀ {ks : List Key} {us : List Value}, Vals (ks.map kV) us → ItemsAre (mixKind P w) ks us
  | [], _, r => by rw [List.map_nil] at r; cases r; exact .nil
  | k :: ks, _, r => by
    rw [List.map_cons] at r
    cases r with
    | cons h t => exact .cons (key_is h) (keys_are t)
theorem dx_obj {P : Program} {w : World} {H : Hp} {h : Heap} {a : Addr} {kvs : KX} (q : dxOk w a kvs h) : ObjOk P w H h a (dX w a kvs) := by
  refine ⟨q, ?_, fun h1 h2 ⟨z, y, xs, r, o, es, ep, e, rest⟩ k => ⟨z, y, xs, r, o, es, ep, k o e, rest⟩⟩
  obtain ⟨_, _, _, _, o, _, _, e, _⟩ := q
  exact ⟨o, e⟩
theorem dx_val : ∀ {kvs : KX} {xs : List (List Key × Addr × Value)}, Paired (fun (p : List Key × Addr × V) (q : List Key × Addr × Value) => p.1 = q.1 ∧ p.2.1 = q.2.1 ∧ RelV p.2.2 q.2.2) kvs xs → ∀ k, match atX kvs k with | none => atKey xs k = none | some v => ∃ b u, atKey xs k = some (b, u) ∧ RelV v u
  | _, _, .nil, _ => rfl
  | _, _, .cons (a := p) (b := q) r t, k => by
    obtain ⟨h1, h2, h3⟩ := r
    have ih := dx_val t k
    by_cases e : p.1 = k
    · have e1 : ∀ kvs : KX, atX (p :: kvs) k = some p.2.2 := fun kvs => by unfold atX; rw [List.find?_cons_of_pos (by simpa using e)]; rfl
      rw [e1]
      refine ⟨q.2.1, q.2.2, ?_, h3⟩
      unfold atKey
      rw [List.find?_cons_of_pos (by simpa [← h1] using e)]
      rfl
    · have e1 : ∀ kvs : KX, atX (p :: kvs) k = atX kvs k := fun kvs => by unfold atX; rw [List.find?_cons_of_neg (by simpa using e)]
      have e2 : ∀ xs : List (List Key × Addr × Value), atKey (q :: xs) k = atKey xs k := fun xs => by unfold atKey; rw [List.find?_cons_of_neg (by simpa [← h1] using e)]
      rw [e1, e2]
      exact ih
theorem dx_put : ∀ {kvs : KX} {xs : List (List Key × Addr × Value)}, Paired (fun (p : List Key × Addr × V) (q : List Key × Addr × Value) => p.1 = q.1 ∧ p.2.1 = q.2.1 ∧ RelV p.2.2 q.2.2) kvs xs → ∀ (k : List Key) {v : V} {u : Value}, RelV v u →
    Paired (fun (p : List Key × Addr × V) (q : List Key × Addr × Value) => p.1 = q.1 ∧ p.2.1 = q.2.1 ∧ RelV p.2.2 q.2.2) (kvs.map fun q => if q.1 = k then (q.1, q.2.1, v) else q) (xs.map (putAt k u))
  | _, _, .nil, _, _, _, _ => .nil
  | _, _, .cons (a := p) (b := q) r t, k, v, u, ru => by
    rw [List.map_cons, List.map_cons]
    refine .cons ?_ (dx_put t k ru)
    obtain ⟨h1, h2, h3⟩ := r
    unfold putAt
    by_cases e : p.1 = k
    · rw [if_pos e, if_pos (h1 ▸ e)]; exact ⟨h1, h2, ru⟩
    · rw [if_neg e, if_neg (h1 ▸ e)]; exact ⟨h1, h2, h3⟩
theorem dx_stored {kvs : KX} {xs : List (List Key × Addr × Value)} (r : Paired (fun (p : List Key × Addr × V) (q : List Key × Addr × Value) => p.1 = q.1 ∧ p.2.1 = q.2.1 ∧ RelV p.2.2 q.2.2) kvs xs) (k : List Key) (b : Addr) {v : V} {u : Value} (ru : RelV v u) :
    Paired (fun (p : List Key × Addr × V) (q : List Key × Addr × Value) => p.1 = q.1 ∧ p.2.1 = q.2.1 ∧ RelV p.2.2 q.2.2) (putX kvs k b v) (storedH xs k b u) := by
  have q := dx_val r k
  unfold putX storedH
  cases e : atX kvs k with
  | none =>
    rw [e] at q
    have q : atKey xs k = none := q
    rw [q]
    exact prd_append r (.cons ⟨rfl, rfl, ru⟩ .nil)
  | some v' =>
    rw [e] at q
    obtain ⟨b', u', q, _⟩ := q
    rw [q]
    exact dx_put r k ru
theorem putX_len (kvs : KX) (k : List Key) (b : Addr) (v : V) : (putX kvs k b v).length ≤ kvs.length + 1 := by
  unfold putX
  split
  · rw [List.length_map]; omega
  · rw [List.length_append]; exact Nat.le_refl _
theorem KeysOk.put {K : PySem.W.Frag} {H : Hp} {kvs : KX} (h : KeysOk K H kvs) {k : List Key} {b : Addr} (hb : SqT K H b (k.map kV)) (v : V) : KeysOk K H (putX kvs k b v) := by
  intro q hq
  unfold putX at hq
  split at hq
  · obtain ⟨p, hp, rfl⟩ := List.mem_map.mp hq
    split
    · exact h p hp
    · exact h p hp
  · rcases List.mem_append.mp hq with z | z
    · exact h q z
    · rw [List.mem_singleton.mp z]; exact hb
theorem SqT.tk {K : PySem.W.Frag} {H H' : Hp} {a : Addr} {xs : List V} (h : SqT K H a xs) (t : ∀ u, (∃ ys, u = HO.tup ys ∨ ∃ o ys, u = HO.frz o (.tup ys)) → H a = some u → H' a = some u) : SqT K H' a xs := by
  rcases h with (h | ⟨o, h⟩) | h
  · exact .inl (.inl (t _ ⟨xs, .inl rfl⟩ h))
  · exact .inl (.inr ⟨o, t _ ⟨xs, .inr ⟨o, xs, rfl⟩⟩ h⟩)
  · exact .inr h
theorem KeysOk.upd {K : PySem.W.Frag} {H : Hp} {d : Addr} {φ : Heap → Prop} {o : HO} {kvs : KX} (h : KeysOk K H kvs) (hd : H d = some (.ext φ)) : KeysOk K (upd H d o) kvs := fun q hq => (h q hq).tk fun u hu e => by
  have ne : q.2.1 ≠ d := by
    rintro z
    rw [z, hd] at e
    cases e
    obtain ⟨ys, hu | ⟨o, ys, hu⟩⟩ := hu <;> cases hu
  rw [upd_ne ne]
  exact e
theorem KeysOk.same {K : PySem.W.Frag} {H H' : Hp} {kvs : KX} (s : Same H H') (h : KeysOk K H kvs) : KeysOk K H' kvs := fun q hq => s.seqT (h q hq)
section
variable {X : Cx} {pins : List (Addr × Obj)} {σ : St} {H : Hp} {s : Shared} {a b : Addr} {kvs : KX} {k : List Key} {A : Around} {E : Value → Shared → Prop}
theorem Inv.keyAt (I : Inv X pins σ H s) (h : SqT X.K H b (k.map kV)) : (tupleKind (mixKind X.prog X.w)).is s.heap k b := by
  obtain ⟨its, r, ⟨o, h1, h2, n, h3⟩, _⟩ := I.tuple h
  exact ⟨o, its.toArray, n, h1, h2, h3, by simpa using keys_are r⟩
theorem Inv.dx (I : Inv X pins σ H s) (e : H a = some (dX X.w a kvs)) (ok : KeysOk X.K H kvs) : kvs.length ≤ sizeLine ∧ (a == sysModules) = false ∧ ∃ xs, Paired (fun (p : List Key × Addr × V) (q : List Key × Addr × Value) => p.1 = q.1 ∧ p.2.1 = q.2.1 ∧ RelV p.2.2 q.2.2) kvs xs ∧ s.heap.DictOfH (tupleKind (mixKind X.prog X.w)) a xs := by
  obtain ⟨⟨z, y, xs, r, o, es, ep, h1, h2, h3, h4, h5⟩, _⟩ := (show ObjOk X.prog X.w H s.heap a (dX X.w a kvs) from I.hok a _ e)
  refine ⟨z, y, xs, r, o, es, ep, h1, h2, h3, h4 _, ?_, h5⟩
  have all : ∀ {l : KX} {m : List (List Key × Addr × Value)}, Paired (fun (p : List Key × Addr × V) (q : List Key × Addr × Value) => p.1 = q.1 ∧ p.2.1 = q.2.1 ∧ RelV p.2.2 q.2.2) l m → (∀ q ∈ l, SqT X.K H q.2.1 (q.1.map kV)) → ∀ x ∈ m, (tupleKind (mixKind X.prog X.w)).is s.heap x.1 x.2.1 := by
    intro l m q
    induction q with
    | nil => intro _ x hx; exact nomatch hx
    | @cons p q ps qs hq t ih =>
      intro f x hx
      rcases List.mem_cons.mp hx with e | hx
      · subst e
        have := I.keyAt (f p (List.mem_cons_self ..))
        rw [hq.1, hq.2.1] at this
        exact this
      · exact ih (fun q hq => f q (List.mem_cons_of_mem _ hq)) x hx
  exact all r ok
theorem dx_write {h' : Heap} {t' : Nat} {kvs' : KX} {xs' : List (List Key × Addr × Value)} (I : Inv X pins σ H s) (e : H a = some (dX X.w a kvs)) (y : (a == sysModules) = false) (z : kvs'.length ≤ sizeLine)
    (r : Paired (fun (p : List Key × Addr × V) (q : List Key × Addr × Value) => p.1 = q.1 ∧ p.2.1 = q.2.1 ∧ RelV p.2.2 q.2.2) kvs' xs') (dd : h'.DictOfH (tupleKind (mixKind X.prog X.w)) a xs') (hs : Heap.SameBut a s.heap h') : Inv X pins σ (upd H a (dX X.w a kvs')) { s with heap := h', toks := t' } := by
  obtain ⟨o, es, ep, h1, h2, h3, h4, _, h5⟩ := dd
  exact I.write (x := a) (e := a) (by rw [e]; exact True.intro) (.inl rfl) (fun b q hb z => (hs.2 b hb).trans z) ⟨o, h1⟩ (dx_obj ⟨z, y, xs', r, o, es, ep, h1, h2, h3, fun _ => h4, h5⟩)
end
/-- d[y] -/
def tXGet (w : World) (K : PySem.W.Frag) (td ty : TE) : TE := fun σ H Q => td σ H fun x H1 => ty σ H1 fun y H2 => ∃ a b k kvs v, x = .ref a ∧ y = .ref b ∧ H2 a = some (dX w a kvs) ∧ KeysOk K H2 kvs ∧ SqT K H2 b (k.map kV) ∧ atX kvs k = some v ∧ Q v H2
/-- y in d, y not in d -/
def tXIn (w : World) (K : PySem.W.Frag) (neg : Bool) (ty td : TE) : TE := fun σ H Q => ty σ H fun y H1 => td σ H1 fun x H2 => ∃ a b k kvs, x = .ref a ∧ y = .ref b ∧ H2 a = some (dX w a kvs) ∧ KeysOk K H2 kvs ∧ SqT K H2 b (k.map kV) ∧ Q (.bl (if neg then !(atX kvs k).isSome else (atX kvs k).isSome)) H2
/-- d[y] = v -/
def sXPut (w : World) (K : PySem.W.Frag) (td ty tv : TE) : TS := fun D σ H => tv σ H fun v H1 => td σ H1 fun x H2 => ty σ H2 fun y H3 => ∃ a b k kvs, x = .ref a ∧ y = .ref b ∧ H3 a = some (dX w a kvs) ∧ KeysOk K H3 kvs ∧ SqT K H3 b (k.map kV) ∧ kvs.length < sizeLine ∧ D.nx σ (upd H3 a (dX w a (putX kvs k b v)))
/-- {y: v} -/
def tXOne (w : World) (K : PySem.W.Frag) (ty tv : TE) : TE := fun σ H Q => ∀ p, H p = none → ty σ (upd H p (dX w p [])) fun y H1 => tv σ H1 fun v H2 => ∃ b k, y = .ref b ∧ H2 p = some (dX w p []) ∧ SqT K H2 b (k.map kV) ∧ Q (.ref p) (upd H2 p (dX w p [(k, b, v)]))
section
variable {X : Cx} {o i e value : Expr} {pos pos' : Pos} {td ty tv : TE}
theorem dxGet_type {pins : List (Addr × Obj)} {σ : St} {H : Hp} {s : Shared} {a : Addr} {kvs : KX} (I : Inv X pins σ H s) (e : H a = some (dX X.w a kvs)) (ok : KeysOk X.K H kvs) : s.TypeIs (.ref a) "dict" := by
  obtain ⟨_, _, xs, _, dd⟩ := I.dx e ok
  exact dd.typeIs
theorem rm1 {X : Cx} (hu : X.A.units + 1 < cLine) : (tupleKind (mixKind X.prog X.w)).room X.A.in1 := tupleKind_room_in1 hu
theorem pe_xget (hu : X.A.units + 1 < cLine) (ho : PE X o td) (hi : PE X i ty) (hs : ∀ ov iv, subscripted i false ov iv = operate [ov, iv] (getItem ov iv)) : PE X (.Subscript o i pos) (tXGet X.w X.K td ty) := by
  intro pins s σ H Q I h
  refine Subscript_ (thn (ho pins s σ H _ I h) fun u s1 ⟨x, H1, I1, rx, q1⟩ => thn (hi pins s1 σ H1 _ I1 q1) fun iv s2 ⟨y, H2, I2, ry, a, b, k, kvs, v, ex, ey, e, ok, hk, ev, q2⟩ => ?_)
  subst ex; subst ey
  obtain rfl : u = Value.ref a := rx
  obtain rfl : iv = Value.ref b := ry
  have hT := dxGet_type I2 e ok
  obtain ⟨z, hd, xs, r, dd⟩ := I2.dx e ok
  have val := dx_val r k
  rw [ev] at val
  obtain ⟨b', w', ea, rv⟩ := val
  have fin : wpAny (model X.prog X.w) X.A (subscripted i false (.ref a) (.ref b)) (fun r s₃ => wpAny (model X.prog X.w) X.A (letTemporaryGo o (.ref a) r >>= fun _ => pure r) (EP X pins σ Q) X.xe s₃) X.xe s2 := by
    rw [hs]
    refine wpAny_operating (wpAny_getItem_heap (rm1 hu) (I2.keyAt hk) dd ea ?_)
    exact wpAny_bind (wpAny_letTemporaryGo (wpAny_pure ⟨v, H2, I2.tok _, rv, q2⟩))
  unfold subscriptTail
  refine wpAny_bind ?_
  rw [getitemInPython_of_ne hT.not_modules]
  refine wpAny_bind (wpAny_specialOf hT PySem.F.slot_dict_getitem.lookup ?_)
  first
    | exact wpAny_pure (wpAny_bind fin)
    | exact wpAny_bind (wpAny_pure (wpAny_bind fin))
    | exact wpAny_bind fin
theorem pc_xin (hu : X.A.units + 1 < cLine) (hi : PE X i ty) (ho : PE X o td) : PC X .In i o (tXIn X.w X.K false ty td) := by
  intro pins s σ H Q I h
  refine thn (hi pins s σ H _ I h) fun iv s1 ⟨y, H1, I1, ry, q1⟩ => thn (ho pins s1 σ H1 _ I1 q1) fun u s2 ⟨x, H2, I2, rx, a, b, k, kvs, ex, ey, e, ok, hk, q2⟩ => ?_
  subst ex; subst ey
  obtain rfl : u = Value.ref a := rx
  obtain rfl : iv = Value.ref b := ry
  obtain ⟨z, hd, xs, r, dd⟩ := I2.dx e ok
  refine wpAny_in_heap (rm1 hu) (I2.keyAt hk) hd dd ⟨_, H2, I2.tok _, ?_, q2⟩
  have val := dx_val r k
  cases ev : atX kvs k with
  | none => rw [ev] at val; rw [show atKey xs k = none from val]; rfl
  | some v => rw [ev] at val; obtain ⟨b', w', ea, _⟩ := val; rw [ea]; rfl
theorem pc_xnotin (hu : X.A.units + 1 < cLine) (hi : PE X i ty) (ho : PE X o td) : PC X .NotIn i o (tXIn X.w X.K true ty td) := by
  intro pins s σ H Q I h
  refine thn (hi pins s σ H _ I h) fun iv s1 ⟨y, H1, I1, ry, q1⟩ => thn (ho pins s1 σ H1 _ I1 q1) fun u s2 ⟨x, H2, I2, rx, a, b, k, kvs, ex, ey, e, ok, hk, q2⟩ => ?_
  subst ex; subst ey
  obtain rfl : u = Value.ref a := rx
  obtain rfl : iv = Value.ref b := ry
  obtain ⟨z, hd, xs, r, dd⟩ := I2.dx e ok
  refine wpAny_notIn_heap (rm1 hu) (I2.keyAt hk) hd dd ⟨_, H2, I2.tok _, ?_, q2⟩
  have val := dx_val r k
  cases ev : atX kvs k with
  | none => rw [ev] at val; rw [show atKey xs k = none from val]; rfl
  | some v => rw [ev] at val; obtain ⟨b', w', ea, _⟩ := val; rw [ea]; rfl
theorem ps_xput (hu : X.A.units + 1 < cLine) (ho : PE X o td) (hi : PE X i ty) (hv : PE X value tv) (hs : swapsWith value (some (.Subscript o i pos')) pos.line X.env = pure false) :
    PS X (.Assign [.Subscript o i pos'] value pos) (sXPut X.w X.K td ty tv) := by
  intro pins s σ H D I h
  refine wpAny_Assign_Subscript (thn (hv pins s σ H _ I h) fun r s1 ⟨v, H1, I1, rv, q1⟩ => thn (ho pins s1 σ H1 _ I1 q1) fun u s2 ⟨x, H2, I2, rx, q2⟩ => thn (hi pins s2 σ H2 _ I2 q2) fun iv s3 ⟨y, H3, I3, ry, a, b, k, kvs, ex, ey, e, ok, hk, hz, q3⟩ => ?_) hs
  subst ex; subst ey
  obtain rfl : u = Value.ref a := rx
  obtain rfl : iv = Value.ref b := ry
  obtain ⟨z, hd, xs, rr, dd⟩ := I3.dx e ok
  have lx := prd_len rr
  refine wpAny_setItem_heap (hsz := by omega) (rm1 hu) (I3.keyAt hk) dd fun h' dd' hs' => ⟨σ, _, ?_, q3⟩
  exact dx_write I3 e hd (by have := putX_len kvs k b v; omega) (dx_stored rr k b rv) dd' hs'
theorem pe_xone (hu : X.A.units < cLine) (hi : PE X i ty) (hv : PE X value tv) : PE X (.Dict [some i] [value] pos) (tXOne X.w X.K ty tv) := by
  intro pins s σ H Q I h
  have hn := I.hok.fresh (Nat.le_refl s.heap.objs.size)
  have big : sysModules < s.heap.objs.size := Nat.lt_trans (by decide) (show mainGlobals < s.heap.objs.size from (I.mod.glob.keeps I.bk).lt)
  have I1 := I.laid (a := s.heap.objs.size) (o := dX X.w s.heap.objs.size []) (h' := s.heap.push { cls := .type "dict", data := .dict #[] }) (t' := s.toks) (fun _ _ q => Heap.get?_push_of_some _ q) (Nat.le_refl _)
    (dx_obj ⟨Nat.zero_le _, beq_eq_false_iff_ne.mpr (Ne.symm (Nat.ne_of_lt big)), [], .nil, _, #[], 0, Heap.get?_push_size _ rfl, ⟨rfl, rfl, rfl⟩, rfl, fun _ => rfl, List.nodup_nil⟩)
  refine wpAny_Dict_any rfl rfl (by simp) (show 1 ≤ 15 by decide) (pairTrees_cons_walk (thn (hi pins _ σ _ _ I1 (h _ hn)) fun iv s2 ⟨y, H1, I2, ry, q1⟩ => thn (hv pins s2 σ H1 _ I2 q1) fun r s3 ⟨v, H2, I3, rv, b, k, ey, e, hk, q2⟩ => pairTrees_nil_walk ?_))
  subst ey
  obtain rfl : iv = Value.ref b := ry
  obtain ⟨z, hd, xs, rr, dd⟩ := I3.dx e (fun q hq => nomatch hq)
  cases rr
  unfold storeAll
  rw [List.forIn_cons]
  refine wpAny_bind (wpAny_bind (wpAny_dictSet_heap (hsz := Nat.zero_le _) (knd := tupleKind (mixKind X.prog X.w)) hu (I3.keyAt hk) dd fun h' dd' hs' => wpAny_pure ?_))
  show wpAny _ _ (forIn [] PUnit.unit _) _ _ _
  rw [List.forIn_nil]
  refine wpAny_pure ⟨.ref s.heap.objs.size, _, ?_, rfl, q2⟩
  exact dx_write (kvs' := [(k, b, v)]) I3 e hd (show 1 ≤ sizeLine by decide) (.cons ⟨rfl, rfl, rv⟩ .nil) dd' hs'
end
end L2
namespace L2
open PySem PySem.Spec PySem.Calls PyProof.Rows
/-! ### dict(l), l a list of pairs -/
theorem list_no_keys : typeLookup (.type "list") "keys" = pure none := by rw [typeLookup_type, builtinLookup_eq_fast]; kernel_rfl
theorem list_no_getattr : typeLookup (.type "list") "__getattr__" = pure none := by rw [typeLookup_type, builtinLookup_eq_fast]; kernel_rfl
theorem entry_list_ga : entryFor table "list.__getattribute__" = some Builtin.«object.__getattribute__» := entryFor_alias (id' := "object.__getattribute__") (by kernel_rfl) (by decide +kernel) (by decide +kernel) (by kernel_rfl)
theorem miss_list (l : Addr) (u : Tok) (its : Array Value) (n : Nat) : Meets (Builtin.«object.__getattribute__» ⟨[.ref l, .str "keys" u], []⟩) (fun A R s => s.heap.get? l = some { cls := .type "list", data := .seq its n } ∧ raisesAttr (.ref l) "keys" A R s) :=
  Meets.of_wp fun prog w A R s hs => by
    obtain ⟨hp, g, d, tk, os⟩ := s
    obtain ⟨ho, hs⟩ := hs
    have hT : Shared.TypeIs ⟨hp, g, d, tk, os⟩ (.ref l) "list" := ⟨_, ho, rfl⟩
    have f1 := list_no_keys
    unfold Builtin.«object.__getattribute__»
    repeat (any_goals (first | assumption | wp_step))
    exact wpAny_raiseAttrError hs.1 hs.2 (attrMsg_fits (by decide +kernel) (by rw [sizeLine_eq]; decide +kernel))
theorem list_keys {prog : Program} {w : World} {A : Around} {E : Value → Shared → Prop} {s : Shared} {l : Addr} {its : Array Value} {n : Nat} {Q : Option Value → Shared → Prop} (hA : A.handled = none) (ho : s.heap.get? l = some { cls := .type "list", data := .seq its n })
    (h : ∀ h' tk, (∀ b o, s.heap.get? b = some o → h'.get? b = some o) → Q none { s with heap := h', toks := tk }) : wpAny (model prog w) A (getAttr? (.ref l) "keys") Q E s := by
  obtain ⟨hp, g, d, tk, os⟩ := s
  have f1 := sub_AttributeError
  have f3 := F.slot_list_getattribute.lookup
  have f4 := F.slot_list_getattribute.bind (.ref l)
  have f5 := list_no_getattr
  have hT : Shared.TypeIs ⟨hp, g, d, tk, os⟩ (.ref l) "list" := ⟨_, ho, rfl⟩
  unfold getAttr? getAttrBy? getAttrBy
  repeat (any_goals (first | assumption | ((with_reducible show wpAny _ _ (call (Value.builtin "list.__getattribute__") _ _) _ _ _); refine call_meets F.slot_list_getattribute hT entry_list_ga (F.args_list_getattribute_2 _ _) (miss_list l _ its n) ⟨ho, hA, fun h' tk' e hx => ?_⟩) | wp_step))
  obtain ⟨t', u', he⟩ := hx.there
  show wpAny _ _ (getattributeRaised _ _ _ _ _ _ _) _ _ _
  unfold getattributeRaised
  repeat (any_goals (first | assumption | wp_step))
  exact h _ _ hx.keeps
theorem entry_dict_loop : entryFor table "dict.update.loop" = some Builtin.«dict.update.loop» := entryFor_of_tree (by kernel_rfl)
theorem plain_dict_loop : plainId "dict.update.loop" = true := by decide +kernel
section
variable {prog : Program} {w : World} {A : Around} {E : Value → Shared → Prop} {s : Shared} {p : Addr} {a b : Value}
theorem pair_items {Q : List Value → Shared → Prop} (hp : s.heap.IsTuple p #[a, b]) (h : Q [a, b] s) : wpAny (model prog w) A (Builtin.Dict.pairItems (.ref p)) Q E s := by
  obtain ⟨hh, g, d, tk, os⟩ := s
  obtain ⟨⟨c, dd, dt, sl⟩, ho, hc, n, hd⟩ := hp
  obtain rfl : c = .type "tuple" := hc
  obtain rfl : dt = .seq #[a, b] n := hd
  unfold Builtin.Dict.pairItems
  repeat (any_goals (first | assumption | wp_step))
end
end L2
namespace L2
open PySem PySem.Spec PySem.Calls PyProof.Rows
section
variable {prog : Program} {w : World} {A : Around} {R : Result → Shared → Prop} {K : Type} [DecidableEq K] {knd : KeyKind prog w K} {D l it : Addr} {items : Array Value} {ks : List (K × Value)}
/-- the pairs of the list, as they lie -/
def PairsAt (knd : KeyKind prog w K) (items : Array Value) (ks : List (K × Value)) (h : Heap) : Prop := items.size = ks.length ∧ ∀ (j : Nat) (k : K) (v : Value), ks[j]? = some (k, v) → ∃ p key, items[j]? = some (.ref p) ∧ h.IsTuple p #[key, v] ∧ knd.is k key = true
theorem dict_loop (hA : A.handled = none) (lz : ks.length ≤ 1000) : ∀ (m i : Nat) (s : Shared) (kvs : List (K × Value)), ks.length - i = m → i ≤ ks.length → kvs.length ≤ i → s.heap.IsListIter it l i → s.heap.IsList l items → s.heap.DictOf knd D kvs → PairsAt knd items ks s.heap →
    (∀ h' tk, h'.DictOf knd D ((ks.drop i).foldl (fun kvs q => stored kvs q.1 q.2) kvs) → (∀ b o, b ≠ D → b ≠ it → s.heap.get? b = some o → h'.get? b = some o) → R (.ok (.ret .none)) { s with heap := h', toks := tk }) →
    codeAny (model prog w) A (.builtin "dict.update.loop" ⟨[.ref D, .ref it, rawInt (i : Int), .none], []⟩) R s := by
  intro m
  induction m with
  | zero =>
    intro i s kvs hm hi hk hit hl hd pa hR
    have e : i = ks.length := by omega
    refine codeAny_builtin entry_dict_loop ?_
    rw [Around.under_plainId plain_dict_loop _]
    show wpAny _ A.in1 (pyNext (.ref it) >>= _) _ _ s
    refine wpAny_bind (wpAny_pyNext_list_end (show A.in1.handled = none from hA) hit hl (by rw [Array.getElem?_eq_none (by rw [pa.1]; omega)]) fun h' eb => ?_)
    have dne : D ≠ it := by
      obtain ⟨o, _, _, ho, hx, _⟩ := hd
      obtain ⟨o', ho', hc', _⟩ := hit
      rintro rfl
      rw [ho] at ho'
      cases ho'
      rw [hx.1] at hc'
      exact absurd hc' (by decide)
    have := hR h' s.toks (by rw [e, List.drop_length]; exact hd.extBut eb dne) fun b o _ hb z => eb b o hb z
    exact wpAny_bind (wpAny_pure (wpAny_pure this))
  | succ m ih =>
    intro i s kvs hm hi hk hit hl hd pa hR
    have hlt : i < ks.length := by omega
    obtain ⟨⟨k, v⟩, hkv⟩ : ∃ q, ks[i]? = some q := ⟨ks[i], List.getElem?_eq_getElem hlt⟩
    obtain ⟨p, key, hp1, hp2, hp3⟩ := pa.2 i k v hkv
    have tne : ∀ {q : Addr} {xs : Array Value}, s.heap.IsTuple q xs → q ≠ it ∧ q ≠ D := fun {q xs} ⟨o, ho, hc, _⟩ => by
      constructor
      · rintro rfl
        obtain ⟨o', ho', hc', _⟩ := hit
        rw [ho] at ho'
        cases ho'
        rw [hc] at hc'
        exact absurd hc' (by decide)
      · rintro rfl
        obtain ⟨o', _, _, ho', hx, _⟩ := hd
        rw [ho] at ho'
        cases ho'
        have hx := hx.1
        rw [hc] at hx
        exact absurd hx (by decide)
    have dne : D ≠ it := by
      obtain ⟨o, _, _, ho, hx, _⟩ := hd
      obtain ⟨o', ho', hc', _⟩ := hit
      rintro rfl
      rw [ho] at ho'
      cases ho'
      rw [hx.1] at hc'
      exact absurd hc' (by decide)
    have lne : l ≠ it ∧ l ≠ D := by
      obtain ⟨o, ho, hc, _⟩ := hl
      constructor
      · rintro rfl
        obtain ⟨o', ho', hc', _⟩ := hit
        rw [ho] at ho'
        cases ho'
        rw [hc] at hc'
        exact absurd hc' (by decide)
      · rintro rfl
        obtain ⟨o', _, _, ho', hx, _⟩ := hd
        rw [ho] at ho'
        cases ho'
        have hx := hx.1
        rw [hc] at hx
        exact absurd hx (by decide)
    refine codeAny_builtin entry_dict_loop ?_
    rw [Around.under_plainId plain_dict_loop _]
    show wpAny _ A.in1 (pyNext (.ref it) >>= _) _ _ s
    refine wpAny_bind (wpAny_pyNext_list_item hit hl hp1 fun h1 hit1 sb1 => ?_)
    have pa1 : PairsAt knd items ks h1 := ⟨pa.1, fun j k v h => let ⟨p, key, a, b, c⟩ := pa.2 j k v h; ⟨p, key, a, let ⟨o, ho, r⟩ := b; ⟨o, (sb1.2 p (tne ⟨o, ho, r⟩).1).trans ho, r⟩, c⟩⟩
    have hl1 : h1.IsList l items := let ⟨o, ho, r⟩ := hl; ⟨o, (sb1.2 l lne.1).trans ho, r⟩
    have hd1 : h1.DictOf knd D kvs := let ⟨o, es, ep, ho, r⟩ := hd; ⟨o, es, ep, (sb1.2 D dne).trans ho, r⟩
    have hp1' : h1.IsTuple p #[key, v] := let ⟨o, ho, r⟩ := hp2; ⟨o, (sb1.2 p (tne ⟨o, ho, r⟩).1).trans ho, r⟩
    refine wpAny_bind (wpAny_holding (wpAny_bind (wpAny_tryCatch (pair_items hp1' ?_))))
    refine wpAny_holding (wpAny_dictSet_pairs (hsz := Nat.le_trans (show kvs.length ≤ 1000 by omega) (by decide)) hp3 hd1 fun h2 hd2 sb2 => ?_)
    refine wpAny_pure ⟨plainId_quiet plain_dict_loop _, ?_⟩
    have e : (i : Int) + 1 = ((i + 1 : Nat) : Int) := by omega
    rw [e]
    have ls : (stored kvs k v).length ≤ i + 1 := by
      unfold stored
      split
      · rw [List.length_map]; omega
      · rw [List.length_append]; exact Nat.succ_le_succ hk
    have ed : ks.drop i = (k, v) :: ks.drop (i + 1) := by
      rw [List.drop_eq_getElem_cons hlt]
      congr 1
      rw [List.getElem?_eq_getElem hlt] at hkv
      exact Option.some.inj hkv
    refine ih (i + 1) _ (stored kvs k v) (by omega) hlt ls ?_ ?_ hd2 ?_ fun h' tk hd' kp => ?_
    · obtain ⟨o, ho, r⟩ := hit1
      exact ⟨o, (sb2.2 it (Ne.symm dne)).trans ho, r⟩
    · obtain ⟨o, ho, r⟩ := hl1
      exact ⟨o, (sb2.2 l lne.2).trans ho, r⟩
    · refine ⟨pa.1, fun j k v h => ?_⟩
      obtain ⟨p, key, a, b, c⟩ := pa.2 j k v h
      obtain ⟨o, ho, r⟩ := b
      have t := tne ⟨o, ho, r⟩
      exact ⟨p, key, a, ⟨o, (sb2.2 p t.2).trans ((sb1.2 p t.1).trans ho), r⟩, c⟩
    · refine hR h' tk (by rw [ed]; exact hd') fun b o b1 b2 z => kp b o b1 b2 ((sb2.2 b b1).trans ((sb1.2 b b2).trans z))
theorem call_dict_list {E : Value → Shared → Prop} {s : Shared} {n : Nat} {Q : Value → Shared → Prop} (hA : A.handled = none) (lz : ks.length ≤ 1000) (ho : s.heap.get? l = some { cls := .type "list", data := .seq items n }) (pa : PairsAt knd items ks s.heap)
    (h : ∀ h' tk, h'.DictOf knd s.heap.objs.size (ks.foldl (fun kvs q => stored kvs q.1 q.2) []) → (∀ b o, s.heap.get? b = some o → h'.get? b = some o) → Q (.ref s.heap.objs.size) { s with heap := h', toks := tk }) :
    wpAny (model prog w) A (call (.type "dict") [.ref l]) Q E s := by
  refine callType_codes (Q₁ := fun obj s₁ => obj = .ref s.heap.objs.size ∧ s₁ = { s with heap := s.heap.push { cls := .type "dict", data := .dict #[] } }) F.kt_called_dict (F.kt_typeCall_dict_1 _) F.entry_dict_init (kt_code_dict_new _ ⟨rfl, rfl⟩) ?_
  rintro obj s₁ ⟨rfl, rfl⟩
  have hnew : (s.heap.push { cls := .type "dict", data := .dict #[] }).DictOf knd s.heap.objs.size [] := Heap.DictOf.new s.heap
  have ho1 := Heap.get?_push_of_some { cls := .type "dict", data := .dict #[] } ho
  refine ⟨hnew.typeIs, F.args_dict_init_2 _ _, ?_⟩
  unfold Builtin.«dict.__init__» Builtin.Dict.selfAndRest
  refine wpAny_bind (wpAny_bind (wpAny_notOrdered_dict hnew.typeIs ?_))
  show wpAny _ _ (pure (s.heap.objs.size, [Value.ref l])) _ _ _
  refine wpAny_pure ?_
  show wpAny _ _ (Builtin.Dict.updateFrom "dict.__init__" s.heap.objs.size (.ref l) [] .none) _ _ _
  unfold Builtin.Dict.updateFrom
  refine wpAny_bind (wpAny_typeOf (T := "list") ⟨_, ho1, rfl⟩ ?_)
  rw [if_pos (by decide)]
  refine wpAny_bind (list_keys (show A.in1.handled = none from hA) ho1 fun h1 tk1 k1 => ?_)
  rw [if_pos (show (none : Option Value).isNone = true from rfl)]
  have keep1 : ∀ b o, s.heap.get? b = some o → h1.get? b = some o := fun b o z => k1 b o (Heap.get?_push_of_some _ z)
  refine wpAny_bind (wpAny_rule (wpAny_bind (wpAny_pyIter_list (items := items) ⟨_, k1 _ _ ho1, rfl, _, rfl⟩ ?_)))
  have hd1 : (h1.push { cls := .type "list_iterator", data := .fields #[.ref l, .int 0 0] }).DictOf knd s.heap.objs.size [] := by
    obtain ⟨o, es, ep, g, r⟩ := hnew
    exact ⟨o, es, ep, Heap.get?_push_of_some _ (k1 _ _ g), r⟩
  refine wpAny_pure ⟨plainId_quiet plain_dict_loop _, dict_loop (A := A.in1) (l := l) (items := items) (ks := ks) (knd := knd) (show A.in1.handled = none from hA) lz _ 0 _ [] rfl (Nat.zero_le _) (Nat.le_refl _) ⟨_, Heap.get?_push_size _ rfl, rfl, rfl⟩ ⟨_, Heap.get?_push_of_some _ (k1 _ _ ho1), rfl, _, rfl⟩ hd1 ⟨pa.1, fun j k v hj => ?_⟩ fun h' tk hd' kp => ?_⟩
  · obtain ⟨p, key, a, ⟨o, ho, r⟩, c⟩ := pa.2 j k v hj
    exact ⟨p, key, a, ⟨o, Heap.get?_push_of_some _ (keep1 _ _ ho), r⟩, c⟩
  · rw [List.drop_zero] at hd'
    refine ⟨rfl, h h' tk hd' fun b o z => ?_⟩
    have b1 : b < s.heap.objs.size := Heap.lt_size z
    have b2 : b < h1.objs.size := Heap.lt_size (keep1 b o z)
    exact kp b o (Nat.ne_of_lt b1) (Nat.ne_of_lt b2) (Heap.get?_push_of_some _ (keep1 b o z))
end
end L2
namespace L2
open PySem PySem.Spec PyProof.Rows
/-! ### dict(l) of pairs of texts; in and [] of a dict whose keys are ints and texts -/
def atK (kvs : List (Key × V)) (k : Key) : Option V := (kvs.find? fun q => decide (q.1 = k)).map (·.2)
theorem atK_val : ∀ {kvs : List (Key × V)} {vs : List (Key × Value)}, KV kvs vs → ∀ k, match atK kvs k with | none => valueAt vs k = none | some v => ∃ u, valueAt vs k = some u ∧ RelV v u
  | _, _, .nil, _ => rfl
  | _, _, .cons (a := p) (b := q) r t, k => by
    obtain ⟨h1, h3⟩ := r
    have ih := atK_val t k
    by_cases e : p.1 = k
    · have e1 : ∀ kvs, atK (p :: kvs) k = some p.2 := fun kvs => by unfold atK; rw [List.find?_cons_of_pos (by simpa using e)]; rfl
      rw [e1]
      refine ⟨q.2, ?_, h3⟩
      unfold valueAt
      rw [List.find?_cons_of_pos (by simpa [← h1] using e)]
      rfl
    · have e1 : ∀ kvs, atK (p :: kvs) k = atK kvs k := fun kvs => by unfold atK; rw [List.find?_cons_of_neg (by simpa using e)]
      have e2 : ∀ vs, valueAt (q :: vs) k = valueAt vs k := fun vs => by unfold valueAt; rw [List.find?_cons_of_neg (by simpa [← h1] using e)]
      rw [e1, e2]
      exact ih
def tKGet (td ty : TE) : TE := fun σ H Q => td σ H fun x H1 => ty σ H1 fun y H2 => ∃ a k kvs v, x = .ref a ∧ y = kV k ∧ H2 a = some (.dK kvs) ∧ atK kvs k = some v ∧ Q v H2
def tKIn (ty td : TE) : TE := fun σ H Q => ty σ H fun y H1 => td σ H1 fun x H2 => ∃ a k kvs, x = .ref a ∧ y = kV k ∧ H2 a = some (.dK kvs) ∧ Q (.bl (atK kvs k).isSome) H2
section
variable {X : Cx} {o i : Expr} {td ty : TE} {pos : Pos}
theorem pe_kget (ho : PE X o td) (hi : PE X i ty) (hs : ∀ ov iv, subscripted i false ov iv = operate [ov, iv] (getItem ov iv)) : PE X (.Subscript o i pos) (tKGet td ty) := by
  intro pins s σ H Q I h
  refine Subscript_ (thn (ho pins s σ H _ I h) fun u s1 ⟨x, H1, I1, rx, q1⟩ => thn (hi pins s1 σ H1 _ I1 q1) fun iv s2 ⟨y, H2, I2, ry, a, k, kvs, v, ex, ey, e, ev, q2⟩ => ?_)
  subst ex; subst ey
  obtain rfl : u = Value.ref a := rx
  obtain ⟨z, hd, vs, r, dd⟩ := (show ObjOk X.prog X.w H2 s2.heap a (.dK kvs) from I2.hok a _ e)
  have hT := dd.typeIs
  have val := atK_val r k
  rw [ev] at val
  obtain ⟨w', ea, rv⟩ := val
  unfold subscriptTail
  refine wpAny_bind ?_
  rw [getitemInPython_of_ne hT.not_modules]
  refine wpAny_bind (wpAny_specialOf hT PySem.F.slot_dict_getitem.lookup ?_)
  have fin : wpAny (model X.prog X.w) X.A (subscripted i false (.ref a) iv) (fun r s₃ => wpAny (model X.prog X.w) X.A (letTemporaryGo o (.ref a) r >>= fun _ => pure r) (EP X pins σ Q) X.xe s₃) X.xe s2 := by
    rw [hs]
    exact wpAny_operating (wpAny_getItem_of (key_is ry) dd.mapOf ea (wpAny_bind (wpAny_letTemporaryGo (wpAny_pure ⟨v, H2, I2.tok _, rv, q2⟩))))
  first
    | exact wpAny_pure (wpAny_bind fin)
    | exact wpAny_bind (wpAny_pure (wpAny_bind fin))
    | exact wpAny_bind fin
theorem pc_kin (hi : PE X i ty) (ho : PE X o td) : PC X .In i o (tKIn ty td) := by
  intro pins s σ H Q I h
  refine thn (hi pins s σ H _ I h) fun iv s1 ⟨y, H1, I1, ry, q1⟩ => thn (ho pins s1 σ H1 _ I1 q1) fun u s2 ⟨x, H2, I2, rx, a, k, kvs, ex, ey, e, q2⟩ => ?_
  subst ex; subst ey
  obtain rfl : u = Value.ref a := rx
  obtain ⟨z, hd, vs, r, dd⟩ := (show ObjOk X.prog X.w H2 s2.heap a (.dK kvs) from I2.hok a _ e)
  refine wpAny_in_of (key_is ry) hd dd.mapOf ⟨_, H2, I2.tok _, ?_, q2⟩
  have val := atK_val r k
  cases ev : atK kvs k with
  | none => rw [ev] at val; rw [show valueAt vs k = none from val]; rfl
  | some v => rw [ev] at val; obtain ⟨w', ea, _⟩ := val; rw [ea]; rfl
end
/-- a pair of texts -/
def SPair (H : Hp) (v : V) (p : Str × Str) : Prop := ∃ r, v = .ref r ∧ H r = some (.tup [.str p.1, .str p.2])
abbrev kvS (ps : List (Str × Str)) : List (Key × V) := ps.map fun p => (Sum.inr p.1, V.str p.2)
theorem pairs_ks {X : Cx} {pins : List (Addr × Obj)} {σ : St} {H : Hp} {s : Shared} (I : Inv X pins σ H s) : ∀ {ws : List V} {its : List Value} {ps : List (Str × Str)}, Vals ws its → Paired (SPair H) ws ps →
    ∃ ks : List (Key × Value), KV (kvS ps) ks ∧ its.length = ks.length ∧ ∀ (j : Nat) (k : Key) (v : Value), ks[j]? = some (k, v) → ∃ p key, its[j]? = some (.ref p) ∧ s.heap.IsTuple p #[key, v] ∧ (mixKind X.prog X.w).is k key = true
  | _, _, _, .nil, .nil => ⟨[], .nil, rfl, fun j k v h => by simp at h⟩
  | _, _, _, .cons ru ru', .cons (b := q) r t => by
    obtain ⟨ks, h1, h2, h3⟩ := pairs_ks I ru' t
    obtain ⟨p, e, hp⟩ := r
    subst e
    obtain rfl := (show _ = Value.ref p from ru)
    obtain ⟨_, its2, rv, o, g1, g2, n, g3⟩ := (show ObjOk X.prog X.w H s.heap p (.tup [.str q.1, .str q.2]) from I.hok p _ hp)
    cases rv with
    | cons ra rv =>
      cases rv with
      | cons rb rv =>
        cases rv
        refine ⟨(Sum.inr q.1, _) :: ks, .cons ⟨rfl, rb⟩ h1, by rw [List.length_cons, List.length_cons, h2], fun j k v h => ?_⟩
        cases j with
        | zero =>
          obtain ⟨rfl, rfl⟩ := Prod.mk.inj (Option.some.inj h)
          exact ⟨p, _, rfl, ⟨o, g1, g2, n, g3⟩, key_is (k := .inr q.1) ra⟩
        | succ j => exact h3 j k v h
theorem stored_all {K : Type} [DecidableEq K] : ∀ {ks acc : List (K × Value)}, ((acc ++ ks).map (·.1)).Nodup → ks.foldl (fun kvs q => stored kvs q.1 q.2) acc = acc ++ ks
  | [], acc, _ => by simp
  | q :: ks, acc, h => by
    have e : stored acc q.1 q.2 = acc ++ [q] := by
      unfold stored
      rw [if_neg]
      intro z
      obtain ⟨p, hp, e⟩ := List.any_eq_true.mp z
      have e := of_decide_eq_true e
      rw [List.map_append, List.nodup_append] at h
      exact h.2.2 _ (List.mem_map.mpr ⟨p, hp, rfl⟩) _ (List.mem_map.mpr ⟨q, List.mem_cons_self .., rfl⟩) e
    rw [List.foldl_cons, e, stored_all (by rw [List.append_assoc]; exact h), List.append_assoc]
    rfl
/-- dict(l) -/
def rDictL : List V → Hp → VK → Prop := fun xs H Q => ∃ l ws ps, xs = [.ref l] ∧ H l = some (.lst ws) ∧ Paired (SPair H) ws ps ∧ ps.length ≤ 1000 ∧ (ps.map (·.1)).Nodup ∧ ∀ d, H d = none → Q (.ref d) (upd H d (.dK (kvS ps)))
theorem call_dictL {X : Cx} (hc : X.calm = true) : CallR X (.type "dict") rDictL := by
  intro pins s σ H xs us Q I r h
  obtain ⟨l, ws, ps, rfl, hl, pr, hz, nd, q⟩ := h
  obtain ⟨u, rfl, ru⟩ := vals1 r
  cases ru
  obtain ⟨z, its, n, rv, hlen, e⟩ := I.lstM hl
  obtain ⟨ks, k1, k2, k3⟩ := pairs_ks I rv pr
  have lk := prd_len k1
  rw [List.length_map] at lk
  have ek : ks.map (·.1) = ps.map fun p => (Sum.inr p.1 : Key) := by
    have gen : ∀ {a : List (Key × V)} {b : List (Key × Value)}, KV a b → b.map (·.1) = a.map (·.1) := by
      intro a b r
      induction r with
      | nil => rfl
      | cons r _ ih => rw [List.map_cons, List.map_cons, ih, r.1]
    rw [gen k1, List.map_map]
    rfl
  have ndk : ((([] : List (Key × Value)) ++ ks).map (·.1)).Nodup := by
    have e2 : (ps.map fun p => (Sum.inr p.1 : Key)) = (ps.map fun p => p.1).map Sum.inr := by rw [List.map_map]; rfl
    rw [List.nil_append, ek, e2, List.nodup_iff_pairwise_ne, List.pairwise_map]
    exact (List.nodup_iff_pairwise_ne.mp nd).imp fun h z => h (Sum.inr.inj z)
  refine call_dict_list (knd := mixKind X.prog X.w) (items := its.toArray) (ks := ks) (I.ok.hd hc) (by omega) e ⟨by simpa using k2, fun j k v h => by simpa using k3 j k v h⟩ fun h' tk dd kp => ?_
  rw [stored_all ndk, List.nil_append] at dd
  have big : sysModules < s.heap.objs.size := Nat.lt_trans (by decide) (show mainGlobals < s.heap.objs.size from (I.mod.glob.keeps I.bk).lt)
  refine ⟨.ref s.heap.objs.size, _, I.laid (t' := tk) (o := .dK (kvS ps)) kp (Nat.le_refl _) ⟨?_, beq_eq_false_iff_ne.mpr (Ne.symm (Nat.ne_of_lt big)), ks, k1, dd⟩, rfl, q _ (I.hok.fresh (Nat.le_refl _))⟩
  rw [List.length_map]
  exact Nat.le_trans hz (by decide)
end L2
namespace L2
open PySem PySem.Spec PyProof.Rows
/-! ### f-strings, str(int) -/
section
variable {X : Cx} {e : Expr} {es : List Expr} {te : TE} {pos : Pos}
/-- the text of an int -/
def iS (i : Int) : Str := Str.ofString (toString i)
theorem iS_len {i : Int} (h0 : 0 ≤ i) {k : Nat} (hk : 0 < k) (h : i < 10 ^ k) : (iS i).length ≤ k := toString_length_le h0 hk h
/-- {e}, an int -/
def tFInt (te : TE) : TE := fun σ H Q => te σ H fun x H1 => ∃ i : Int, x = .int i ∧ i.natAbs.log2 < 1920 ∧ Q (.str (iS i)) H1
theorem pe_fint (he : PE X e te) : PE X (.FormattedValue e (-1) none pos) (tFInt te) := by
  intro pins s σ H Q I h
  refine wpAny_FormattedValue_plain (thn (he pins s σ H _ I h) fun v s1 ⟨x, H1, I1, r1, q1⟩ => ?_)
  obtain ⟨i, rfl, hi, q⟩ := q1
  obtain ⟨t, rfl⟩ := r1
  exact wpAny_formatField_int hi ⟨.str (iS i), H1, I1.tok _, ⟨_, rfl⟩, q⟩
/-- {e!r}, a text -/
def tFRep (te : TE) : TE := fun σ H Q => te σ H fun x H1 => ∃ y : Str, x = .str y ∧ (reprText y).length ≤ sizeLine ∧ Q (.str (reprText y)) H1
theorem pe_frep (he : PE X e te) : PE X (.FormattedValue e 114 none pos) (tFRep te) := by
  intro pins s σ H Q I h
  refine wpAny_FormattedValue_repr (thn (he pins s σ H _ I h) fun v s1 ⟨x, H1, I1, r1, q1⟩ => ?_)
  obtain ⟨y, rfl, hy, q⟩ := q1
  obtain ⟨t, rfl⟩ := r1
  refine pyReprObj_str (wpAny_formatField_str ⟨.str _, H1, I1.tok _, ⟨_, rfl⟩, q⟩ ⟨.str _, H1, (I1.tok _).tok _, ⟨_, rfl⟩, q⟩ hy) hy
/-- the parts of an f-string, from the left -/
abbrev TJ := St → Hp → Str → (Str → Hp → Prop) → Prop
def PJ (X : Cx) (es : List Expr) (t : TJ) : Prop := ∀ (pins : List (Addr × Obj)) (s : Shared) (σ : St) (H : Hp) (acc : Str) (Q : Str → Hp → Prop), Inv X pins σ H s → t σ H acc Q →
  Joins (model X.prog X.w) X.A X.xe (evalEach es X.env) acc (fun out s1 => ∃ H1, Inv X pins σ H1 s1 ∧ Q out H1) s
def tJNil : TJ := fun _ H acc Q => Q acc H
def tJCons (te : TE) (tj : TJ) : TJ := fun σ H acc Q => te σ H fun x H1 => ∃ y : Str, x = .str y ∧ (acc ++ y).length ≤ sizeLine ∧ tj σ H1 (acc ++ y) Q
theorem pj_nil : PJ X [] tJNil := fun _ _ _ H _ _ I h => ⟨H, I, h⟩
theorem pj_cons {tj : TJ} (he : PE X e te) (hs : PJ X es tj) (hev : evalEach (e :: es) X.env = eval e X.env :: evalEach es X.env := by rfl) : PJ X (e :: es) (tJCons te tj) := by
  intro pins s σ H acc Q I h
  rw [hev]
  refine thn (he pins s σ H _ I h) fun v s1 ⟨x, H1, I1, r1, q1⟩ => ?_
  obtain ⟨y, rfl, hy, q⟩ := q1
  obtain ⟨t, rfl⟩ := r1
  exact ⟨y, t, rfl, hy, hs pins s1 σ H1 (acc ++ y) Q I1 q⟩
def tJoin (tj : TJ) : TE := fun σ H Q => tj σ H Str.empty fun out H1 => out.length ≤ sizeLine ∧ Q (.str out) H1
theorem joins_mono {M : Model} {A : Around} {E : Value → Shared → Prop} {Q Q' : Str → Shared → Prop} (h : ∀ o s, Q o s → Q' o s) : ∀ (parts : List (Sem Value)) (acc : Str) (s : Shared), Joins M A E parts acc Q s → Joins M A E parts acc Q' s
  | [], _, _, j => h _ _ j
  | _ :: rest, _, _, j => wpAny_mono j (fun _ _ ⟨y, t, e, l, k⟩ => ⟨y, t, e, l, joins_mono h rest _ _ k⟩) fun _ _ e => e
theorem pe_joined {e1 e2 : Expr} {rest : List Expr} {tj : TJ} (h : PJ X (e1 :: e2 :: rest) tj) : PE X (.JoinedStr (e1 :: e2 :: rest) pos) (tJoin tj) := by
  intro pins s σ H Q I hw
  refine wpAny_JoinedStr (joins_mono (fun o s1 ⟨H1, I1, l, q⟩ => ⟨l, .str o, H1, I1.tok _, ⟨_, rfl⟩, q⟩) _ _ _ (h pins s σ H Str.empty _ I hw))
end
end L2
namespace L2
open PySem PySem.Spec PyProof.Rows
/-! ### texts: str(i), sep.join(l), x.split(y), x.startswith(y), l.index(x) -/
section
variable {X : Cx}
theorem call_strI : CallR X (.type "str") (fun xs H Q => ∃ i : Int, xs = [.int i] ∧ (0 ≤ i ∧ i < 1000000000000) ∧ Q (.str (iS i)) H) := by
  intro pins s σ H xs us Q I r h
  obtain ⟨i, rfl, hi, q⟩ := h
  obtain ⟨u, rfl, t, rfl⟩ := vals1 r
  exact str_of_int_fit (N := 1000000000000) (by rw [if_neg (by omega)]; exact hi.2) (by decide) fun _ => ⟨.str (iS i), H, I.tok _, ⟨_, rfl⟩, q⟩
/-- str(x), x a text -/
theorem call_strS : CallR X (.type "str") (fun xs H Q => ∃ x : Str, xs = [.str x] ∧ Q (.str x) H) := by
  intro pins s σ H xs us Q I r h
  obtain ⟨x, rfl, q⟩ := h
  obtain ⟨u, rfl, t, rfl⟩ := vals1 r
  exact P.str_of_str ⟨.str x, H, I, ⟨_, rfl⟩, q⟩
theorem vals_strs : ∀ {ts : List Str} {us : List Value}, Vals (ts.map V.str) us → ∃ l : List (Str × Tok), us = strValues l ∧ l.map (·.1) = ts
  | [], _, .nil => ⟨[], rfl, rfl⟩
  | t :: ts, _, .cons r h => by
    obtain ⟨k, rfl⟩ := r
    obtain ⟨l, rfl, e⟩ := vals_strs h
    exact ⟨(t, k) :: l, rfl, by rw [List.map_cons, e]⟩
theorem strs_vals : ∀ (l : List (Str × Tok)), Vals ((l.map (·.1)).map V.str) (strValues l)
  | [] => .nil
  | (t, k) :: l => .cons ⟨k, rfl⟩ (strs_vals l)
def rJoin (K : PySem.W.Frag) : V → List V → Hp → VK → Prop := fun x vs H Q => ∃ (sep : Str) (p : Addr) (ts : List Str), x = .str sep ∧ vs = [.ref p] ∧ SqL K H p (ts.map V.str) ∧ JoinOk sep ts = true ∧ Q (.str (Str.join sep ts)) H
theorem mt_join : MtR X "str.join" (rJoin X.K) := by
  intro pins s σ H x vs v us Q I rx rv h
  obtain ⟨sep, p, ts, rfl, rfl, hq, ok, q⟩ := h
  obtain ⟨t, rfl⟩ := rx
  obtain ⟨u, rfl, ru⟩ := rv.one
  cases ru
  obtain ⟨its, r, pl, hz⟩ := I.list hq
  obtain ⟨l, rfl, e⟩ := vals_strs r
  refine SC.join pl.isList e ok fun t' k => ⟨.str _, H, I.tok _, ⟨_, rfl⟩, ?_⟩
  show Q (.str (Builtin.Str.glued sep ts)) H
  rw [StrLaws.glued_eq_join]
  exact q
theorem join_ok {sep : Str} {ts : List Str} {B : Nat} (hB : ∀ y ∈ ts, y.length ≤ B) (h : ts.length * B + ts.length * sep.length ≤ 16777216) : JoinOk sep ts = true := by
  unfold JoinOk
  rw [StrLaws.joinFits hB h]
  rfl
def rStarts : V → List V → Hp → VK → Prop := fun x vs H Q => ∃ a b : Str, x = .str a ∧ vs = [.str b] ∧ Q (.bl (Txt.startswith a b)) H
theorem mt_starts : MtR X "str.startswith" rStarts := by
  intro pins s σ H x vs v us Q I rx rv h
  obtain ⟨a, b, rfl, rfl, q⟩ := h
  obtain ⟨t, rfl⟩ := rx
  obtain ⟨u, rfl, k, rfl⟩ := rv.one
  exact SC.startswith ⟨.bl _, H, I, rfl, q⟩
/-- x.split(y): a new list of texts -/
def rSplit : V → List V → Hp → VK → Prop := fun x vs H Q => ∃ a b : Str, x = .str a ∧ vs = [.str b] ∧ (b.length == 0) = false ∧ a.length ≤ sizeLine ∧ (Builtin.Str.partsBetween a (Builtin.Str.occurrences a b 0 a.length (a.length + 1)) b.length).length ≤ sizeLine ∧
  ∀ p, H p = none → Q (.ref p) (upd H p (.lst ((Txt.split a b).map V.str)))
theorem mt_split : MtR X "str.split" rSplit := by
  intro pins s σ H x vs v us Q I rx rv h
  obtain ⟨a, b, rfl, rfl, hb, ha, hn, q⟩ := h
  obtain ⟨t, rfl⟩ := rx
  obtain ⟨u, rfl, k, rfl⟩ := rv.one
  have q := q s.heap.objs.size (I.hok.fresh (Nat.le_refl _))
  have fin : ∀ (l : List (Str × Tok)) (tk : Nat), l.map (·.1) = Txt.split a b → (strValues l).length ≤ sizeLine → EP X pins σ Q (.ref s.heap.objs.size) { s with toks := tk, heap := s.heap.push { cls := .type "list", data := .seq (strValues l).toArray } } := fun l tk e hl => by
    refine ⟨.ref s.heap.objs.size, _, I.laid (t' := tk) (o := .lst ((Txt.split a b).map V.str)) (fun b ob q => Heap.get?_push_of_some _ q) (Nat.le_refl _) ?_, rfl, q⟩
    rw [← e]
    exact ⟨by rw [(strs_vals l).length]; exact hl, _, 0, strs_vals l, Heap.get?_push_size _ rfl⟩
  cases h1 : (decide (a.length < b.length) || decide (PySem.Builtin.Str.strKind a < PySem.Builtin.Str.strKind b))
  · cases hf : (Builtin.Str.occurrences a b 0 a.length (a.length + 1)).isEmpty
    · refine call_meets F.slot_str_split (typeIs_str _ _ _) F.entry_str_split (F.args_str_split_2 _ _) (meets_str_split_sep a b t k h1 hb hf ha hn) ?_
      show wants _ _ _ { s with toks := _, heap := s.heap.push { cls := .type "list", data := .seq (strsFrom s.toks (Builtin.Str.partsBetween a (Builtin.Str.occurrences a b 0 a.length (a.length + 1)) b.length)).toArray } }
      rw [strsFrom_eq]
      exact fin (numbered s.toks _) _ ((numbered_texts _ _).trans ((if_neg (ne_true_of_eq_false h1)).trans (if_neg (ne_true_of_eq_false hf))).symm) (by rw [← strsFrom_eq, strsFrom_length]; exact hn)
    · exact call_meets F.slot_str_split (typeIs_str _ _ _) F.entry_str_split (F.args_str_split_2 _ _) (meets_str_split_not_found a b t k h1 hb hf)
        (fin [(a, t)] s.toks ((if_neg (ne_true_of_eq_false h1)).trans (if_pos hf)).symm (by show 1 ≤ sizeLine; decide))
  · exact call_meets F.slot_str_split (typeIs_str _ _ _) F.entry_str_split (F.args_str_split_2 _ _) (meets_str_split_cannot_occur a b t k h1)
      (fin [(a, t)] s.toks (if_pos h1).symm (by show 1 ≤ sizeLine; decide))
/-- l.index(x), a text that is in the list -/
def rIndex (K : PySem.W.Frag) : V → List V → Hp → VK → Prop := fun x vs H Q => ∃ (l : Addr) (ts : List Str) (y : Str) (j : Nat), x = .ref l ∧ vs = [.str y] ∧ SqL K H l (ts.map V.str) ∧ ts[j]? = some y ∧ (∀ m, m < j → ts[m]? ≠ some y) ∧ Q (.int j) H
theorem mt_index (hu : X.A.units + 64 < cLine) : MtM X "list.index" (rIndex X.K) := by
  intro pins s σ H x vs v us Q I rx rv h
  obtain ⟨l, ts, y, j, rfl, rfl, hq, hj, hno, q⟩ := h
  cases rx
  obtain ⟨u, rfl, t, rfl⟩ := rv.one
  obtain ⟨its, r, ⟨⟨cls, dd, data, sl⟩, n, ho, hc, hs, hd⟩, hz⟩ := I.list hq
  obtain ⟨ps, rfl, e⟩ := vals_strs r
  simp only at hc hd
  subst hc hd
  have hjl : j < ts.length := (List.getElem?_eq_some_iff.mp hj).1
  have ejy : ts[j] = y := (List.getElem?_eq_some_iff.mp hj).2
  have lps : ps.length = ts.length := by rw [← e, List.length_map]
  have lsv : (strValues ps).toArray.size = ps.length := by rw [List.size_toArray]; exact List.length_map _
  have lts : ts.length ≤ sizeLine := by rw [List.length_map] at hz; exact hz
  have szl : sizeLine = 16777216 := by decide
  let eB : Value → Bool := fun v => match v with | .str z _ => decide (z = y) | _ => false
  have at_ : ∀ m (hm : m < (strValues ps).toArray.size) (hm2 : m < ts.length), ∃ k, (strValues ps).toArray[m] = Value.str ts[m] k := fun m hm hm2 => by
    have h1 : m < ps.length := by omega
    refine ⟨ps[m].2, ?_⟩
    have : ts[m] = ps[m].1 := by subst e; simp
    rw [this]
    simp [strValues]
  refine call_meets F.slot_list_index ⟨_, ho, rfl⟩ F.entry_list_index (F.args_list_index_2 _ _) (SeqAt.list_indexAt l _ n dd sl (.str y t) eB j (by omega) (by omega) ?_ (fun m hm hmj => ?_)) ⟨ho, fun z hz => ?_, ⟨.int j, H, I.tok _, ⟨_, rfl⟩, q⟩⟩
  · obtain ⟨k, ek⟩ := at_ j (by omega) hjl
    rw [ek, ejy]
    exact decide_eq_true rfl
  · obtain ⟨k, ek⟩ := at_ m hm (by omega)
    rw [ek]
    refine decide_eq_false fun z => hno m hmj ?_
    rw [List.getElem?_eq_getElem (by omega), z]
  · obtain ⟨m, hm, em⟩ := Array.getElem_of_mem hz
    obtain ⟨k, ek⟩ := at_ m hm (by omega)
    rw [← em, ek]
    exact (eqok_str (K := X.K)).eq (X := X) rfl I (x := .str ts[m]) (y := .str y) ⟨k, rfl⟩ ⟨t, rfl⟩ rfl rfl (by show X.A.units + 1 + 0 < cLine; omega)
end
end L2
namespace L2
open PySem PySem.Spec PyProof.Rows
/-! ### a display of two texts by texts; a walk over a list or a tuple; enumerate in a comprehension; parts of a text -/
section
variable {X : Cx}
def tDict2 (k1 k2 v1 v2 : Str) : TE := fun _ H Q => k1 ≠ k2 ∧ ∀ p, H p = none → Q (.ref p) (upd H p (.dK [(.inr k1, .str v1), (.inr k2, .str v2)]))
theorem pe_dictS2 {k1 k2 v1 v2 : Str} {a1 a2 a3 a4 : Nat} {p1 p2 p3 p4 pos : Pos} :
    PE X (.Dict [some (.Constant (.str k1) a1 p1), some (.Constant (.str k2) a2 p2)] [.Constant (.str v1) a3 p3, .Constant (.str v2) a4 p4] pos) (tDict2 k1 k2 v1 v2) := by
  intro pins s σ H Q I h
  obtain ⟨hk, h⟩ := h
  have hn := I.hok.fresh (Nat.le_refl s.heap.objs.size)
  have big : sysModules < s.heap.objs.size := Nat.lt_trans (by decide) (show mainGlobals < s.heap.objs.size from (I.mod.glob.keeps I.bk).lt)
  refine wpAny_Dict_walk (knd := mixKind X.prog X.w) rfl rfl (by simp) (show 2 ≤ 15 by decide) (pairTrees_cons_walk (Calls.Constant_str (Calls.Constant_str (pairTrees_cons_walk (Calls.Constant_str (Calls.Constant_str (pairTrees_nil_walk ?_)))))))
  refine ⟨[(.inr k1, .str v1 _), (.inr k2, .str v2 _)], ⟨key_is (k := .inr k1) ⟨_, rfl⟩, rfl, key_is (k := .inr k2) ⟨_, rfl⟩, rfl, trivial⟩, Heap.DictOf.new s.heap, fun h' dd hs => ?_⟩
  have ne : (Sum.inr k1 : Key) ≠ Sum.inr k2 := fun e => hk (Sum.inr.inj e)
  have em : ∀ (a b : Value), merged ([] : List (Key × Value)) [(.inr k1, a), (.inr k2, b)] = [(.inr k1, a), (.inr k2, b)] := fun a b => by
    have := stored_all (K := Key) (ks := [(.inr k1, a), (.inr k2, b)]) (acc := []) (by simp [ne, hk])
    exact this
  rw [em] at dd
  refine ⟨.ref s.heap.objs.size, _, I.laid (o := .dK [(.inr k1, .str v1), (.inr k2, .str v2)]) (fun b ob q => ?_) (Nat.le_refl _) ⟨by show 2 ≤ sizeLine; decide, beq_eq_false_iff_ne.mpr (Ne.symm (Nat.ne_of_lt big)), _, .cons ⟨rfl, _, rfl⟩ (.cons ⟨rfl, _, rfl⟩ .nil), dd⟩, rfl, h _ hn⟩
  exact (hs.2 b (Nat.ne_of_lt (Heap.lt_size q))).trans (Heap.get?_push_of_some _ q)
/-- str(x), x an int or a text -/
theorem call_strE : CallR X (.type "str") (fun xs H Q => (∃ i : Int, xs = [.int i] ∧ (0 ≤ i ∧ i < 1000000000000) ∧ Q (.str (iS i)) H) ∨ ∃ x : Str, xs = [.str x] ∧ Q (.str x) H) := by
  intro pins s σ H xs us Q I r h
  rcases h with h | h
  · exact call_strI pins s σ H xs us Q I r h
  · exact call_strS pins s σ H xs us Q I r h
variable {tg : Expr}
def iBoth (K : PySem.W.Frag) (tl : TE) : TI := fun σ H R => tl σ H fun x H1 => ∃ a, x = .ref a ∧ (((∃ xs, SqL K H1 a xs) ∧ R (Itl K a) H1) ∨ ((∃ xs, SqT K H1 a xs) ∧ R (Itt K a) H1))
theorem pi_both {l : Expr} {tl : TE} (hl : PE X l tl) : PI X tg l (iBoth X.K tl) := by
  intro pins s σ H R I h
  refine thn (hl pins s σ H _ I h) fun v s1 ⟨x, H1, I1, r1, q1⟩ => ?_
  obtain ⟨a, e, ⟨⟨xs, hq⟩, q⟩ | ⟨⟨xs, hq⟩, q⟩⟩ := q1
  · subst e
    cases r1
    obtain ⟨its, rv, p, hz⟩ := I1.list hq
    refine wpAny_pyIter_list p.isList ?_
    refine ⟨s1.heap.objs.size, [s1.heap.objs.size], _, _, H1, rfl, I1.kept (t' := s1.toks) fun b o e => Heap.get?_push_of_some _ e, turn_list a _, ⟨_, Heap.get?_push_size _ rfl, rfl, rfl⟩, fun b hb => ?_, q⟩
    have e : b = s1.heap.objs.size := by simpa using hb
    subst e
    exact I1.fpOk (Nat.le_refl _) (I1.hok.fresh (Nat.le_refl _))
  · subst e
    cases r1
    obtain ⟨its, rv, p, hz⟩ := I1.tuple hq
    refine wpAny_pyIter_tuple (show s1.heap.IsTuple a its.toArray from p) ?_
    refine ⟨s1.heap.objs.size, [s1.heap.objs.size], _, _, H1, rfl, I1.kept (t' := s1.toks) fun b o e => Heap.get?_push_of_some _ e, turn_tuple a _, ⟨_, Heap.get?_push_size _ rfl, rfl, rfl⟩, fun b hb => ?_, q⟩
    have e : b = s1.heap.objs.size := by simpa using hb
    subst e
    exact I1.fpOk (Nat.le_refl _) (I1.hok.fresh (Nat.le_refl _))
end
/-- [elt for i, x in enumerate(t)], t a tuple -/
theorem comp_enum {γ : Type} {K : PySem.W.Frag} {js : List Nat} {te : TE} {σ : St} {H : Hp} {Fin : Addr → Hp → Prop} {a : Addr} (xs : List V) (f : Nat → γ) (R2 : Hp → V → γ → Prop)
    (mono2 : ∀ H1 H2 v c, TupKeep H1 H2 → R2 H1 v c → R2 H2 v c) (hS : SqT K H a xs)
    (he : ∀ (i : Nat) (x : V) H', xs[i]? = some x → Same H H' → ∀ Q2 : VK, (∀ y H4, Same H' H4 → R2 H4 y (f i) → Q2 y H4) → te (blkSt2 js σ (some (.int (i : Int))) (some x)) H' Q2)
    (hn : xs.length ≤ sizeLine)
    (hd : ∀ D us H', H D = none → Same H H' → H' D = some (.lst us) → Paired (R2 H') us ((List.range xs.length).map f) → Fin D H') : CompBy2 K js te σ (Ite K a) H Fin := by
  intro D hD
  let Pv : Nat → List V → Hp → Prop := fun i ys H' => Same H H' ∧ H' D = some (.lst ys) ∧ Paired (R2 H') ys ((List.range i).map f)
  refine ⟨fun i m ys H' => m = xs.length - i ∧ i ≤ xs.length ∧ Pv i ys H', ⟨xs.length, by simp, Nat.zero_le _, Same.new hD, upd_same, .nil⟩, ?_⟩
  rintro i m ys H' ⟨rfl, hi, sm, hL, ey⟩
  refine ⟨hL, ?_⟩
  have hS' := sm.seqT hS
  by_cases hlt : i < xs.length
  · have hx : xs[i]? = some xs[i] := by simp [hlt]
    refine .inr ⟨⟨_, _, hS', hx⟩, Pv (i + 1), fun zs H'' p' => ⟨xs.length - (i + 1), by omega, rfl, hlt, p'⟩, fun v H2 y => ?_⟩
    obtain ⟨T, x, rfl, hT, rfl, hx2⟩ := y
    have ex : x = xs[i] := by
      have := hx2 _ hS'
      rw [hx] at this
      exact (Option.some.inj this).symm
    subst ex
    have sT : Same H' (upd H' T (.tup [.int (i : Int), xs[i]])) := Same.new hT
    refine ⟨T, _, _, rfl, SqT.of upd_same, he i _ _ hx (sm.trans sT) _ fun y H4 s4 r4 => ?_⟩
    have hL4 : H4 D = some (.lst ys) := s4 _ _ (sT _ _ hL)
    have tk : TupKeep H4 (upd H4 D (.lst (ys ++ [y]))) := TupKeep.upd fun xs z => by rw [hL4] at z; cases z
    have yl : ys.length = i := by rw [prd_len ey, List.length_map, List.length_range]
    refine ⟨hL4, by omega, ((sm.trans sT).trans s4).upd hD, upd_same, ?_⟩
    rw [List.range_succ, List.map_append]
    exact prd_append (prd_imp (fun x c r => mono2 _ _ _ _ ((sT.trans s4).tk.trans tk) r) ey) (.cons (mono2 _ _ _ _ tk r4) .nil)
  · have e : i = xs.length := by omega
    subst e
    exact .inl ⟨⟨_, hS', Nat.le_refl _⟩, hd D ys H' hD sm hL ey⟩
/-! ### what join puts together, split parts -/
theorem first_cut {c : Nat} : ∀ {a b r r' : List Nat}, c ∉ a → c ∉ b → a ++ c :: r = b ++ c :: r' → a = b ∧ r = r'
  | [], [], _, _, _, _, h => ⟨rfl, (List.cons.inj h).2⟩
  | [], y :: b, _, _, _, hb, h => absurd ((List.cons.inj h).1 ▸ List.mem_cons_self) hb
  | x :: a, [], _, _, ha, _, h => absurd ((List.cons.inj h).1 ▸ List.mem_cons_self) ha
  | x :: a, y :: b, _, _, ha, hb, h => by
    have h1 := List.cons.inj h
    obtain ⟨e1, e2⟩ := first_cut (fun z => ha (List.mem_cons_of_mem _ z)) (fun z => hb (List.mem_cons_of_mem _ z)) h1.2
    exact ⟨by rw [h1.1, e1], e2⟩
theorem str_list {x y : Str} (h : x.cps.toList = y.cps.toList) : x = y := Str.ext' (Array.toList_inj.mp h)
theorem app_list (x y : Str) : (x ++ y).cps.toList = x.cps.toList ++ y.cps.toList := by
  show (x.cps ++ y.cps).toList = _
  simp
theorem join_inj {c : Nat} : ∀ {as bs : List Str}, as ≠ [] → bs ≠ [] → (∀ a ∈ as, c ∉ a.cps.toList) → (∀ b ∈ bs, c ∉ b.cps.toList) → Str.join ⟨#[c]⟩ as = Str.join ⟨#[c]⟩ bs → as = bs
  | [], _, h, _, _, _, _ => absurd rfl h
  | _ :: _, [], _, h, _, _, _ => absurd rfl h
  | [a], [b], _, _, _, _, e => by
    have e : a = b := e
    rw [e]
  | [a], b :: b' :: bs, _, _, ha, _, e => by
    have e : a = b ++ ⟨#[c]⟩ ++ Str.join ⟨#[c]⟩ (b' :: bs) := e
    exact absurd (show c ∈ a.cps.toList by rw [e, app_list, app_list]; simp) (ha a List.mem_cons_self)
  | a :: a' :: as, [b], _, _, _, hb, e => by
    have e : a ++ ⟨#[c]⟩ ++ Str.join ⟨#[c]⟩ (a' :: as) = b := e
    exact absurd (show c ∈ b.cps.toList by rw [← e, app_list, app_list]; simp) (hb b List.mem_cons_self)
  | a :: a' :: as, b :: b' :: bs, _, _, ha, hb, e => by
    have e : a ++ ⟨#[c]⟩ ++ Str.join ⟨#[c]⟩ (a' :: as) = b ++ ⟨#[c]⟩ ++ Str.join ⟨#[c]⟩ (b' :: bs) := e
    have e2 := congrArg (fun z : Str => z.cps.toList) e
    simp only [app_list] at e2
    rw [List.append_assoc, List.append_assoc] at e2
    obtain ⟨q1, q2⟩ := first_cut (c := c) (ha a List.mem_cons_self) (hb b List.mem_cons_self) e2
    have q3 := join_inj (as := a' :: as) (bs := b' :: bs) (by simp) (by simp) (fun x hx => ha x (List.mem_cons_of_mem _ hx)) (fun x hx => hb x (List.mem_cons_of_mem _ hx)) (str_list q2)
    rw [str_list q1, q3]
theorem split_of_join {c : Nat} {ts : List Str} (h0 : ts ≠ []) (hf : ∀ t ∈ ts, c ∉ t.cps.toList) (hne : (Str.join ⟨#[c]⟩ ts).length ≠ 0) : Txt.split (Str.join ⟨#[c]⟩ ts) ⟨#[c]⟩ = ts := by
  refine join_inj (c := c) (fun e => hne ?_) h0 (StrLaws.split_free _ c) hf (StrLaws.join_split _ _)
  have := StrLaws.join_split (Str.join ⟨#[c]⟩ ts) ⟨#[c]⟩
  rw [e] at this
  rw [← this]
  rfl
theorem parts_len (x : Str) (c : Nat) : (Builtin.Str.partsBetween x (Builtin.Str.occurrences x ⟨#[c]⟩ 0 x.length (x.length + 1)) (Str.length ⟨#[c]⟩)).length ≤ x.length + 1 := by
  have e := StrLaws.glued_between_self x ⟨#[c]⟩ (x.length + 1)
  have s := size_glued ⟨#[c]⟩ (Builtin.Str.partsBetween x (Builtin.Str.occurrences x ⟨#[c]⟩ 0 x.length (x.length + 1)) (Str.length ⟨#[c]⟩))
  rw [e] at s
  have l1 : Str.length ⟨#[c]⟩ = 1 := rfl
  rw [l1] at s ⊢
  omega
end L2
namespace L2
open PySem PySem.Spec PyProof.Rows
/-! ### an exception that passes a frame, or a comprehension's block -/
/-- what a call that raised leaves behind is what the context wants of an exception -/
def GoesOn (X : Cx) (E : XK) : Prop := ∀ pins σ H1 s1 e s', Inv X pins σ H1 s1 → CXE X.prog X.w X.stack H1 s1 E e s' → X.xe e s'
/-- f(..), f may raise, and what it raises goes on -/
def tCallP (E : XK) (sp : Sp) (t : TA) : TE := fun σ H Q => t σ H fun vs H1 => sp vs H1 Q E
theorem pe_callP {X : Cx} {E : XK} {k : Nat} {x : Str} {ps : List Str} {sp : Sp} {p pos : Pos} {e : Expr} {es : List Expr} {t : TA} (C : HasX X.prog X.w X.K X.mg X.base k x ps sp) (hr : Room k X.A) (hg : Gl X x) (ha : PA X (e :: es) t) (hp : GoesOn X E)
    (hdb : (x == ("__debug__" : Str)) = false := by decide) (he : starEach (e :: es) X.env = (false, eval e X.env) :: starEach es X.env := by rfl) (hpl : (backTo pos (starEach es X.env)).any (·.1) = false := by rfl) : PE X (.Call (.Name x p) (e :: es) [] pos) (tCallP E sp t) :=
  fun pins s σ H Q I h => run_callX (W := X.xe) C hr hg ha I h (fun H1 s1 e' s' I1 cx => hp pins σ H1 s1 e' s' I1 cx) hdb he hpl
/-- what is wanted of an exception that leaves a def -/
abbrev LeavesBy (X : Cx) (E : XK) : Prop :=
  ∀ e s', wpAny (model X.prog X.w) X.A (leaving X.env e) (fun _ s'' => CXE X.prog X.w X.outer X.H₀ X.s₀ E e s'') (fun e' s'' => CXE X.prog X.w X.outer X.H₀ X.s₀ E e' s'') s' → X.xe e s'
theorem goes_fn {X : Cx} {E : XK} (hex : X.ex = []) (hstk : X.stack = X.env :: X.outer ∧ X.env.frame = some X.env.locals) (hxe : LeavesBy X E) : GoesOn X E := by
  intro pins σ H1 s1 e s' I1 cx
  obtain ⟨a, T, cls, H', ee, I2, ha0, hT0, na, nT, fl, hE⟩ := I1.behind cx
  subst ee
  exact hxe _ _ (leave_next I2 hex hstk fl ha0 hT0 (I1.new0 hex na) (I1.new0 hex nT) hE)

section
variable {M : Model} {A : Around} {E : Value → Shared → Prop} {s : Shared} {g : Heap} {l : List Env} {a : Addr} {cls a0 fl : Value}
/-- the head of the traceback is marked anew: nothing else is other -/
theorem marked (kb : g.StaysIn s.heap) (ff : s.heap.FunFrames g l) (tr : s.heap.TracedAtW g a cls a0 fl) (v : Value) :
    ∃ T oT ts, s.heap.get? T = some oT ∧ oT.data = .fields ts ∧ 3 < ts.size ∧ g.StaysIn (s.heap.update T (Obj.mapFields (·.setIfInBounds 3 v))) ∧ (s.heap.update T (Obj.mapFields (·.setIfInBounds 3 v))).FunFrames g l ∧
      (s.heap.update T (Obj.mapFields (·.setIfInBounds 3 v))).TracedAtW g a cls a0 v ∧ (∀ b o, s.heap.get? b = some o → (∀ vs, o.data ≠ .fields vs) → (s.heap.update T (Obj.mapFields (·.setIfInBounds 3 v))).get? b = some o) ∧
      ∃ oe vs, s.heap.get? a = some oe ∧ oe.cls = cls ∧ vs[0]? = some a0 ∧ oe.data = .fields vs ∧ vs[1]? = some (.ref T) ∧ (s.heap.update T (Obj.mapFields (·.setIfInBounds 3 v))).get? a = some oe ∧ ts[3]? = some fl := by
  obtain ⟨oe, vs, T, oT, ts, c1, ⟨c2, c3⟩, c4, c5, c6, c7, c8, c9, c10⟩ := tr
  have big : 3 < ts.size := (Array.getElem?_eq_some_iff.mp c10).1
  have away : ∀ b o, b ≠ T → s.heap.get? b = some o → (s.heap.update T (Obj.mapFields (·.setIfInBounds 3 v))).get? b = some o := fun b o n q => by
    rw [Heap.get?_update_other _ _ (fun z => n z.symm)]
    exact q
  have noT : ∀ b o, s.heap.get? b = some o → (∀ ws, o.data ≠ .fields ws) → b ≠ T := fun b o q n z => by
    subst z
    rw [c8] at q
    cases q
    exact n ts c9
  have stay : ∀ b o, s.heap.get? b = some o → (∀ ws, o.data ≠ .fields ws) → (s.heap.update T (Obj.mapFields (·.setIfInBounds 3 v))).get? b = some o := fun b o q n => away b o (noT b o q n) q
  have ga := away a oe (fun z => c7 z.symm) c1
  refine ⟨T, oT, ts, c8, c9, big, fun b o q => ?_, ff.of_keeps fun b o q n => ⟨o, stay b o q n, rfl⟩, ⟨oe, vs, T, _, _, ga, ⟨c2, c3⟩, c4, c5, c6, c7, Heap.get?_update_self _ c8 (Obj.isFreed_of_fields (Obj.data_mapFields c9 _)), Obj.data_mapFields c9 _, by simp [big]⟩, stay,
    oe, vs, c1, c2, c3, c4, c5, ga, c10⟩
  refine away b o (fun z => ?_) (kb b o q)
  rw [z, c6] at q
  cases q
/-- leaving a frame, whatever mark the traceback bears -/
theorem leaving_marked {env : Env} {outer : List Env} {L : Addr} {Q : Unit → Shared → Prop} (hfr : A.frames = some (env :: outer)) (hf : env.frame = some L) (kb : g.StaysIn s.heap) (hen : g.get? a = none) (ff : s.heap.FunFrames g (env :: outer)) (tr : s.heap.TracedAtW g a cls a0 fl)
    (h : ∀ h', Heap.LeftW g (env :: outer) a cls a0 s.heap h' → Q () { s with heap := h' }) : wpAny M A (leaving env (.ref a)) Q E s := by
  by_cases eq : fl = rawInt L
  · subst eq
    exact wpAny_bind (wpAny_noteFrame_againW hf tr (wpAny_landsW ⟨kb, hen, ff, tr⟩ fun h' f up => h h' ⟨f.1, f.2.2.1, f.2.2.2, up⟩))
  · obtain ⟨T, oT, ts, c8, c9, big, kb2, ff2, _, stay, oe, vs, c1, c2, c3, c4, c5, ga, c10⟩ := marked kb ff tr Value.none
    subst c2
    unfold leaving noteFrame
    simp only [hf]
    refine wpAny_bind (wpAny_bind (wpAny_field c1 c4 c5 ?_))
    rw [if_pos (by simp : (Value.ref T != Value.none) = true)]
    refine wpAny_bind (wpAny_field c8 c9 c10 ?_)
    rw [if_neg (by simpa using eq : ¬ ((fl == rawInt L) = true))]
    refine wpAny_bind (wpAny_setField c8 c9 big ?_)
    exact wpAny_newEntryW hfr ff2 hf ga kb2 hen c4 (Array.getElem?_eq_some_iff.mp c5).1 c3 fun h' lf => h h' ⟨lf.1, lf.2.1, lf.2.2.1, fun b o q n => lf.2.2.2 b o (stay b o q n) n⟩
/-- passed on by a block: the mark is any -/
theorem passOn_marked {α : Type} {what : String} {env : Env} {Q : α → Shared → Prop} (kb : g.StaysIn s.heap) (ff : s.heap.FunFrames g l) (tr : s.heap.TracedAtW g a cls a0 fl)
    (h : ∀ h' v, g.StaysIn h' → h'.FunFrames g l → h'.TracedAtW g a cls a0 v → (∀ b o, s.heap.get? b = some o → (∀ vs, o.data ≠ .fields vs) → h'.get? b = some o) → E (.ref a) { s with heap := h' }) :
    wpAny M A (PySem.passOn what (.ref a) env : Sem α) Q E s := by
  obtain ⟨T, oT, ts, c8, c9, big, kb2, ff2, tr2, stay, oe, vs, c1, c2, c3, c4, c5, ga, c10⟩ := marked kb ff tr (env.frame.elim Value.none fun f => rawInt f)
  have flight : ∀ {Q : Unit → Shared → Prop}, Q () { s with heap := s.heap.update T (Obj.mapFields (·.setIfInBounds 3 (env.frame.elim Value.none fun f => rawInt f))) } → wpAny M A (setFlight (.ref a) env.frame) Q E s := fun q => by
    unfold setFlight
    refine wpAny_bind (wpAny_field c1 c4 c5 ?_)
    rw [if_pos (by simp : (Value.ref T != Value.none) = true)]
    exact wpAny_setField c8 c9 big q
  have last := h _ _ kb2 ff2 tr2 stay
  unfold PySem.passOn
  refine wpAny_bind (wpAny_field c1 c4 c5 ?_)
  rw [if_neg (by simp : ¬ ((Value.ref T == Value.none) = true))]
  first
    | exact wpAny_bind (wpAny_pure (wpAny_bind (flight (wpAny_throw last))))
    | exact wpAny_bind (flight (wpAny_throw last))
end
theorem funs_on {h h' g : Heap} : ∀ {l : List Env}, h.FunFrames g l → (∀ b ∈ frs l, ∀ o, h.get? b = some o → h'.get? b = some o) → h'.FunFrames g l
  | [], _, _ => trivial
  | env :: l, ⟨k, ⟨L, o, hf, hb, ho, hd⟩, r⟩, hk => by
    have e : frs (env :: l) = L :: frs l := by
      unfold frs
      rw [List.filterMap_cons, hf]
    rw [e] at hk
    exact ⟨k, ⟨L, o, hf, hb, hk L (List.mem_cons_self ..) o ho, hd⟩, funs_on r fun b z => hk b (List.mem_cons_of_mem _ z)⟩

section
variable {X : Cx} {pins : List (Addr × Obj)} {σ : St} {H : Hp} {s : Shared} {h' : Heap}
/-- as Inv.left, by what stays alone -/
theorem Inv.leftS (I : Inv X pins σ H s) (hex : X.ex = []) (hstk : X.stack = X.env :: X.outer ∧ X.env.frame = some X.env.locals) {xs : List Addr} {E : XK} {a : Addr} {cls a0 : Value} (hxs : ∀ b ∈ xs, H b = none) (hx0 : ∀ b ∈ xs, X.s₀.heap.get? b = none) (ha : a ∈ xs)
    (hE : E cls none H) (st : Stays X xs s.heap h') (ff : h'.FunFrames (PySem.W.hideAll s.heap (xs ++ frs X.stack)) (X.env :: X.outer)) (tr : h'.TracedW (PySem.W.hideAll s.heap (xs ++ frs X.stack)) a cls a0) : CXE X.prog X.w X.outer X.H₀ X.s₀ E (.ref a) { s with heap := h' } := by
  obtain ⟨oe, vs, T, oT, ts, e1, ⟨ec, e0⟩, ed, e2, nT, nTa, eT, edT, e3⟩ := tr
  have Tfr : T ∉ frs X.stack := fun m => by
    rw [hstk.1] at m
    obtain ⟨_, o', e', n⟩ := ff.mem m
    rw [eT] at e'
    cases e'
    exact n ts edT
  have TT : H T = none ∧ X.s₀.heap.get? T = none := by
    cases q : s.heap.get? T with
    | none => exact ⟨I.fresh_of q, I.new0 hex q⟩
    | some o =>
      by_cases m : T ∈ xs
      · exact ⟨hxs T m, hx0 T m⟩
      · have := PySem.W.hideAll_get (xs ++ frs X.stack) q fun z => (List.mem_append.mp z).elim m Tfr
        rw [nT] at this
        cases this
  exact ⟨a, T, cls, H, rfl, I.os, I.bare, I.stays_un hex st hx0 hstk, I.stays_hok st hxs, hxs a ha, TT.1, hx0 a ha, TT.2, ⟨oe, vs, a0, oT, ts, e1, ec, e0, ed, e2, nTa, eT, edT, e3⟩, hE⟩
end
section
variable {X : Cx} {pins : List (Addr × Obj)} {σ : St} {H : Hp} {s : Shared} {x : Str} {ys : List Str} {sc : Scope} {cl : List (Str × Addr)} {fp : List Addr}
/-- what is raised in a comprehension's block leaves the def -/
theorem goes_blk {E : XK} {use : Option (Value → Sem Unit)} {Q : Value → Shared → Prop} {acc : Value} (hex : X.ex = []) (hstk : X.stack = X.env :: X.outer ∧ X.env.frame = some X.env.locals) (hxe : LeavesBy X E) (I : Inv X pins σ H s) (hf : ∀ b ∈ fp, FpOk X pins H b) :
    GoesOn ((X.blk (x :: ys) sc cl s.heap.objs.size s H fp).wish (notedBy (model X.prog X.w) X.A (compEnvC sc cl s.heap.objs.size X.env) fun e s' => compPost (model X.prog X.w) X.A X.xe use Q acc s.heap.objs.size (.error e) s')) E := by
  intro pl σ' H1 s1 e s' J0 cx
  have J1 := J0.unwish
  obtain ⟨a, T, cls, H', ee, J2, ha0, hT0, na, nT, fl, hE⟩ := J1.behind cx
  subst ee
  obtain ⟨I1, _, _⟩ := blk_end I hf J1
  obtain ⟨I2, F2, _⟩ := blk_end I hf J2
  generalize hC : s.heap.objs.size = C at *
  have fr := frs_stk hstk
  have Cfr : C ∉ frs X.stack := by
    rw [fr]
    intro m
    rcases List.mem_cons.mp m with z | z
    · exact F2.2.1 z
    · exact F2.2.2.1 z
  have C0 : X.s₀.heap.get? C = none := by
    rcases F2.2.2.2.1 with z | z
    · rw [hex] at z; cases z
    · cases q : X.s₀.heap.get? C with
      | none => rfl
      | some o => exact absurd (Heap.lt_size q) (Nat.not_lt.mpr z)
  have three : ∀ b ∈ [a, T, C], b = a ∨ b = T ∨ b = C := fun b hb => by simpa using hb
  have un : ∀ b ∈ [a, T, C], H' b = none := fun b hb => by rcases three b hb with z | z | z <;> rw [z] <;> first | assumption | exact F2.1
  have u0 : ∀ b ∈ [a, T, C], X.s₀.heap.get? b = none := fun b hb => by
    rcases three b hb with z | z | z <;> rw [z]
    · exact I1.new0 hex na
    · exact I1.new0 hex nT
    · exact C0
  obtain ⟨oe, vs, a0, oT, tvs, f1, fc, f0, fd, f2, nTa, fT, fdT, f3⟩ := fl
  have kf : X.A.frames = some (X.env :: X.outer) := by rw [I.ok.frames, hstk.1]
  have hen : (PySem.W.hideAll s'.heap ([a, T, C] ++ frs X.stack)).get? a = none := PySem.W.hideAll_none _ (by simp)
  have hCn : (PySem.W.hideAll s'.heap ([a, T, C] ++ frs X.stack)).get? C = none := PySem.W.hideAll_none _ (by simp)
  have FL : Heap.FlyingW (PySem.W.hideAll s'.heap ([a, T, C] ++ frs X.stack)) (X.env :: X.outer) a cls a0 s'.heap :=
    ⟨fun b o q => PySem.W.of_hideAll _ q, hen, I2.hid hstk.1 [a, T, C], oe, vs, T, oT, tvs, f1, ⟨fc, f0⟩, fd, f2, PySem.W.hideAll_none _ (by simp), nTa, fT, fdT, f3⟩
  obtain ⟨m, hns, _⟩ := J2.loc
  have hns : s'.heap.Ns C m := hns
  show wpAny _ X.A (noteFrame (.ref a) X.env) _ _ s'
  refine wpAny_looks_onW kf hstk.2 FL fun h4 held4 up4 => ?_
  have ns4 := up4.ns hns
  have notC : ∀ b o ws, h4.get? b = some o → o.data = .fields ws → b ≠ C := fun b o ws q d z => by
    obtain ⟨o', es, ep, ho, hd, _⟩ := ns4
    rw [z, ho] at q
    cases q
    rw [hd] at d
    cases d
  have main : ∀ h5, Heap.SameBut C h4 h5 → ∀ cenv : Env, wpAny (model X.prog X.w) X.A (PySem.passOn "comprehension.variables-let-go" (.ref a) cenv : Sem Value) (fun _ _ => False) X.xe { s' with heap := h5 } := fun h5 sb cenv => by
    have tr5 : h5.TracedAtW (PySem.W.hideAll s'.heap ([a, T, C] ++ frs X.stack)) a cls a0 (rawInt X.env.locals) := by
      obtain ⟨oe, vs, T', oT, ts, d1, d2, d3, d4, d5, d6, d7, d8, d9⟩ := held4.2.2.2
      exact ⟨oe, vs, T', oT, ts, (sb.2 a (notC a oe vs d1 d3)).trans d1, d2, d3, d4, d5, d6, (sb.2 T' (notC T' oT ts d7 d8)).trans d7, d8, d9⟩
    have kb5 : (PySem.W.hideAll s'.heap ([a, T, C] ++ frs X.stack)).StaysIn h5 := fun b o q => (sb.2 b fun z => by rw [z, hCn] at q; cases q).trans (held4.1 b o q)
    have fr5 : ∀ b ∈ frs X.stack, ∀ o, h4.get? b = some o → h5.get? b = some o := fun b hb o q => (sb.2 b fun z => Cfr (z ▸ hb)).trans q
    have ff5 : h5.FunFrames (PySem.W.hideAll s'.heap ([a, T, C] ++ frs X.stack)) (X.env :: X.outer) := funs_on held4.2.2.1 (by rw [← hstk.1]; exact fr5)
    refine passOn_marked (s := { s' with heap := h5 }) kb5 ff5 tr5 fun h6 v kb6 ff6 tr6 stay6 => hxe _ _ (leaving_marked kf hstk.2 kb6 hen ff6 tr6 fun h7 lf => ?_)
    refine I2.leftS hex hstk un u0 (by simp) hE ⟨fun b o b1 b2 q => lf.1 b o (PySem.W.hideAll_get _ q fun m => (List.mem_append.mp m).elim b1 b2), fun b o hb q => ?_⟩ lf.2.1 lf.2.2.1
    obtain ⟨_, o', e', nf⟩ := I2.stack.mem hb
    rw [q] at e'
    cases e'
    obtain ⟨sl, q4⟩ := up4 b o q nf
    exact lf.2.2.2 b { o with slots := sl } (stay6 b { o with slots := sl } (fr5 b hb { o with slots := sl } q4) nf) nf
  cases use with
  | none => exact ⟨m, ns4, fun h5 sb cenv _ => main h5 sb cenv⟩
  | some u => exact ⟨m, ns4, fun h5 sb cenv _ => main h5 sb cenv⟩
end
section
variable {X : Cx} {pins : List (Addr × Obj)} {σ : St} {H : Hp} {s : Shared} {x : Str} {ys : List Str} {js : List Nat} {sc : Scope} {cl : List (Str × Addr)} {fp : List Addr}
theorem comp_blockX {F : XK} {elt iter : Expr} {ifs : List Expr} {px pos : Pos} {tc : TT} {te : TE} {J : It} {it : Addr} {tn : Nat → Heap → Prop} {Fin : Addr → Hp → Prop} {E : Value → Shared → Prop} {RR : Value → Addr → Result → Shared → Prop}
    (hc : X.calm = true) (I : Inv X pins σ H s) (S : BlkScope X.env.scope X.N x ys js sc) (h1 : ∀ y c, cl.lookup y = some c → X.env.cells.lookup y = some c) (h2 : ∀ y ∈ sc.names, y.2 = .free → ∃ c, cl.lookup y.1 = some c)
    (T : Turn X.prog X.w X.K (.Name x px) J fp it tn) (st : tn 0 s.heap) (hf : ∀ b ∈ fp, FpOk X pins H b)
    (ht : ∀ cl C s H ex, PTs (X.blk (x :: ys) sc cl C s H ex) ifs tc) (he : ∀ cl C s H ex W, GoesOn ((X.blk (x :: ys) sc cl C s H ex).wish W) F → PE ((X.blk (x :: ys) sc cl C s H ex).wish W) elt te)
    (hP : ∀ D s1 H1, Inv X pins σ H1 s1 → (∀ b ∈ fp, FpOk X pins H1 b) → GoesOn ((X.blk (x :: ys) sc cl s1.heap.objs.size s1 H1 fp).wish (notedBy (model X.prog X.w) X.A (compEnvC sc cl s1.heap.objs.size X.env) fun e s' => RR D s1.heap.objs.size (.error e) s')) F)
    (hw : CompBy js tc te σ J H Fin)
    (hRR : ∀ D C oC m s5 H5, Inv X pins σ H5 s5 → FpOk X pins H5 C → s5.heap.get? C = some oC → (∀ h : Heap, h.get? C = some oC → h.Ns C m) → Inv X (pins ++ [(C, oC)]) σ H5 s5 → Fin D H5 → RR (.ref D) C (.ok .next) s5) :
    wpAny (model X.prog X.w) X.A (newList []) (fun acc s₃ => wpAny (model X.prog X.w) X.A (newFunctionEnv sc X.env.globals cl [] X.env.qual none .none (some X.env)) (fun cenv s₄ =>
      codeAny (model X.prog X.w) X.A (.compStart (.ListComp elt [⟨.Name x px, iter, ifs, 0⟩] sc pos) 0 (.ref it) acc { cenv with scope := relabel sc X.env }) (RR acc cenv.locals) s₄) E s₃) E s := by
  refine wpAny_newObj_type (wpAny_newFunctionEnv S.nocell (by intro y hy; simp at hy) (fun h₁ hns₁ hsb₁ => ?_) S.kind)
  have hD : H s.heap.objs.size = none := I.hok.fresh (Nat.le_refl _)
  have I1 : Inv X pins σ (upd H s.heap.objs.size (.lst [])) { s with heap := s.heap.push { cls := .type "list", dict := none, data := .seq ([] : List Value).toArray }, toks := s.toks } :=
    I.laid (t' := s.toks) (fun b u e => Heap.get?_push_of_some _ e) (Nat.le_refl _) ⟨Nat.zero_le _, [], 0, .nil, Heap.get?_push_size _ rfl⟩
  have hfl : ∀ b ∈ fp, b < s.heap.objs.size := fun b hb => by
    obtain ⟨o, e, _⟩ := T.obj 0 _ st b hb
    exact Heap.lt_size e
  generalize hs1 : ({ s with heap := s.heap.push { cls := .type "list", dict := none, data := .seq ([] : List Value).toArray }, toks := s.toks } : Shared) = s1 at I1
  have sz1 : s1.heap.objs.size = s.heap.objs.size + 1 := by rw [← hs1]; exact Heap.size_push _ _
  have old : ∀ b o, s.heap.get? b = some o → s1.heap.get? b = some o := fun b o e => by rw [← hs1]; exact Heap.get?_push_of_some _ e
  rw [hs1] at hns₁ hsb₁
  try rw [hs1]
  have hf1 : ∀ b ∈ fp, FpOk X pins (upd H s.heap.objs.size (.lst [])) b := fun b hb => ⟨by rw [upd_ne (Nat.ne_of_lt (hfl b hb))]; exact (hf b hb).1, (hf b hb).2⟩
  have hfl1 : ∀ b ∈ fp, b < s1.heap.objs.size := fun b hb => by rw [sz1]; exact Nat.lt_succ_of_lt (hfl b hb)
  have old1 : ∀ b o, s1.heap.get? b = some o → h₁.get? b = some o := fun b o e => hsb₁.extBut b o (Nat.ne_of_lt (Heap.lt_size e)) (Heap.get?_push_of_some _ e)
  have I2 := blk_start (t' := s1.toks + ([] : List (Str × Value)).length) I1 S h1 h2 hf1 hfl1 hns₁ old1
  have st2 : tn 0 h₁ := T.keep 0 _ _ st fun b _ o e => old1 b o (old b o e)
  obtain ⟨W, ⟨m0, w0⟩, turn⟩ := hw s.heap.objs.size hD
  have fr0 : ∀ b ∈ fp, (upd H s.heap.objs.size (.lst [])) b = none := fun b hb => (hf1 b hb).1
  -- what stays true of the iterator's objects in the block
  have stat : ∀ {H' : Hp} {pl : List (Addr × Obj)}, (∀ b ∈ fp, H' b = none) → (∀ b ∈ fp, ∀ p ∈ pl, p.1 ≠ b) → ∀ b ∈ fp, FpOk (X.blk (x :: ys) sc cl s1.heap.objs.size s1 (upd H s.heap.objs.size (.lst [])) fp) pl H' b := fun hn hp b hb =>
    ⟨hn b hb, (I2.ok.exf b hb).1, I2.ok.exfs b hb, .inl hb, (I2.ok.exf b hb).2, fun p hpp => hp b hb p (by simpa [Cx.blk] using hpp)⟩
  have loop : codeAny (model X.prog X.w) X.A (.compLoop (.ListComp elt [⟨.Name x px, iter, ifs, 0⟩] sc pos) 0 (.ref it) (.ref s.heap.objs.size) (compEnvC sc cl s1.heap.objs.size X.env)) (RR (.ref s.heap.objs.size) s1.heap.objs.size)
      { s1 with heap := h₁, toks := s1.toks + ([] : List (Str × Value)).length } := by
    refine codeAny_compLoop_tests (fun n s' => ∃ i zs H', Inv (X.blk (x :: ys) sc cl s1.heap.objs.size s1 (upd H s.heap.objs.size (.lst [])) fp) [] (blkSt js σ none) H' s' ∧ tn i s'.heap ∧ (∀ b ∈ fp, H' b = none) ∧ W i n zs H') ?_ m0 ⟨0, [], _, I2, st2, fr0, w0⟩
    rintro n s3 ⟨i, zs, H3, I3, st3, fr3, w3⟩
    obtain ⟨hD3, tr⟩ := turn i n zs H3 w3
    rcases tr with ⟨stop, fin⟩ | ⟨go, N, hN, step⟩
    · refine thn (T.done (X.blk (x :: ys) sc cl s1.heap.objs.size s1 (upd H s.heap.objs.size (.lst [])) fp) rfl rfl rfl hc i [] s3 _ H3 _ I3 (stat fr3 (fun _ _ _ z => nomatch z)) st3 stop) fun r s4 ⟨hr, I4⟩ => ?_
      subst hr
      obtain ⟨I5, F5, oC, m, ho, hns, I6⟩ := blk_end I1 hf1 I4
      exact hRR _ _ oC m _ _ I5 F5 ho hns I6 fin
    · refine thn (T.item (X.blk (x :: ys) sc cl s1.heap.objs.size s1 (upd H s.heap.objs.size (.lst [])) fp) rfl rfl rfl hc i [] s3 _ H3 _ I3 (stat fr3 (fun _ _ _ z => nomatch z)) st3 go) fun r s4 ⟨u, hr, h4⟩ => ?_
      subst hr
      show wpAny _ _ (letOwnedTupleGo (.Name x px) (.ref it) u >>= fun _ => assign (.Name x px) (compEnvC sc cl s1.heap.objs.size X.env) u) _ _ s4
      refine wpAny_bind (thn h4 fun _ s5 ⟨v, H5, I5, r5, y5, st5, fr5⟩ => ?_)
      have I5' := I5.pinned (stat fr5 (fun _ _ _ z => nomatch z)) (T.obj _ _ st5)
      refine wpAny_mono (pg_name (X := X.blk (x :: ys) sc cl s1.heap.objs.size s1 (upd H s.heap.objs.size (.lst [])) fp) (i := 0) (pos := px) S.nd rfl (.inl (lookup_relabel_local S.var)) (.inr (lookup_relabel_local S.var)) _ s5 _ H5 v u (fun σ' H' => σ' = blkSt js σ (some v) ∧ H' = H5) I5' r5 ⟨rfl, rfl⟩)
        (fun _ s6 ⟨σ6, H6, I6, e6, e7⟩ => ?_) (fun _ _ z => nomatch z)
      subst e6; subst e7
      refine wpAny_mono (ht _ _ _ _ _ _ s6 _ _ _ I6 (step v H6 y5)) (fun b s7 ⟨H7, I7, q7⟩ => ?_) (fun _ _ z => nomatch z)
      -- the turn's end
      have again : ∀ {σ8 : St} {H8 : Hp} {s8 : Shared} {zs' : List V}, Inv (X.blk (x :: ys) sc cl s1.heap.objs.size s1 (upd H s.heap.objs.size (.lst [])) fp) ([] ++ pinsAt fp s5.heap) (blkSt js σ (some v)) H8 s8 → N zs' H8 →
          ∃ m, m < n ∧ ∃ i zs H', Inv (X.blk (x :: ys) sc cl s1.heap.objs.size s1 (upd H s.heap.objs.size (.lst [])) fp) [] (blkSt js σ none) H' s8 ∧ tn i s8.heap ∧ (∀ b ∈ fp, H' b = none) ∧ W i m zs H' := by
        intro σ8 H8 s8 zs' I8 n8
        obtain ⟨m', hm, w8⟩ := hN _ _ n8
        refine ⟨m', hm, i + 1, zs', H8, (Inv.unpinned I8).weak rfl (fun k w e => ?_), T.keep _ _ _ st5 fun b hb o e => (I8.pin (b, o) (List.mem_append_right _ (List.mem_append_right _ (mem_pinsAt hb e)))).1, fun b hb => ?_, w8⟩
        · cases k with
          | zero => cases (show some (none : Option V) = some (some w) from e)
          | succ k => exact e
        · obtain ⟨o, e, d⟩ := T.obj _ _ st5 b hb
          exact (I8.pin (b, o) (List.mem_append_right _ (List.mem_append_right _ (mem_pinsAt hb e)))).2.1
      cases b with
      | false =>
        rw [if_neg Bool.false_ne_true] at q7
        rw [if_neg Bool.false_ne_true]
        exact again (σ8 := []) I7 q7
      | true =>
        rw [if_pos rfl] at q7
        rw [if_pos rfl]
        refine wpAny_mono (he _ _ _ _ _ _ (hP (.ref s.heap.objs.size) s1 _ I1 hf1) _ s7 _ _ _ (I7.wish _) q7) (fun u8 s8 ⟨y8, H8, I8w, r8, hD8, hz8, q8⟩ => ?_) (fun _ _ z => z)
        have I8 := I8w.unwish
        refine wpAny_mono (mt_append (X := X.blk (x :: ys) sc cl s1.heap.objs.size s1 (upd H s.heap.objs.size (.lst [])) fp) _ s8 _ H8 (.ref s.heap.objs.size) [y8] (.ref s.heap.objs.size) [u8] (fun _ H9 => H9 = upd H8 s.heap.objs.size (.lst (zs ++ [y8]))) I8 rfl (.cons r8 .nil)
          ⟨_, zs, y8, rfl, rfl, hD8, hz8, rfl⟩) (fun _ s9 ⟨_, H9, I9, _, e9⟩ => ?_) (fun _ _ z => nomatch z)
        subst e9
        exact again (σ8 := []) I9 q8
  exact codeAny_compStart_list loop (T.self X.A 0 _ _ _ st2 loop)
end
section
variable {X : Cx} {elt iter : Expr} {x : Str} {ys : List Str} {js : List Nat} {sc : Scope} {ifs : List Expr} {px pos : Pos} {wi : TI} {tc : TT} {te : TE}
theorem pe_compX {F : XK} (hex : X.ex = []) (hstk : X.stack = X.env :: X.outer ∧ X.env.frame = some X.env.locals) (hxe : LeavesBy X F) (S : BlkScope X.env.scope X.N x ys js sc) (hc : X.calm = true) (hi : PI X (.Name x px) iter wi) (ht : ∀ cl C s H ex, PTs (X.blk (x :: ys) sc cl C s H ex) ifs tc) (he : ∀ cl C s H ex W, GoesOn ((X.blk (x :: ys) sc cl C s H ex).wish W) F → PE ((X.blk (x :: ys) sc cl C s H ex).wish W) elt te)
    (hs : ∀ v, foldedSetIterable iter X.env v = pure v := by intro _; rfl) : PE X (.ListComp elt [⟨.Name x px, iter, ifs, 0⟩] sc pos) (tComp wi js tc te) := by
  intro pins s σ H Q I h
  obtain ⟨cl, ecl, h1, h2⟩ := closure_ok (blk_cells I S)
  rw [eval_ListComp]
  refine wpAny_comprehension_free (use := none) rfl hs ecl S.kind S.loc (thn (hi pins s σ H _ I h) fun v s1 hv => thn hv fun itv s2 h2' => ?_)
  obtain ⟨it, fp, tn, J, H2, e, I2, T, st2, f2, q2⟩ := h2'
  subst e
  refine comp_blockX (F := F) (RR := fun acc C => compPost (model X.prog X.w) X.A X.xe none (EP X pins σ Q) acc C) hc I2 S h1 h2 T st2 f2 ht he (fun D s9 H9 I9 f9 => goes_blk hex hstk hxe I9 f9) q2 ?_
  intro D C oC m s5 H5 I5 F5 ho hns I6 fin
  refine ⟨m, hns _ ho, fun h' hs' => ⟨.ref D, H5, ?_, rfl, fin⟩⟩
  exact I5.turned (t' := s5.toks) (fun b o hb e => hs'.extBut b o hb e) F5.1 F5.2.1 F5.2.2.2.1 F5.2.2.2.2.1 F5.2.2.2.2.2
theorem ps_setCX {F : XK} {i : Nat} {y : Str} {py spos : Pos} (hex : X.ex = []) (hstk : X.stack = X.env :: X.outer ∧ X.env.frame = some X.env.locals) (hxe : LeavesBy X F) (hN : X.N.Nodup) (hiN : X.N[i]? = some y) (hy : X.env.scope.names.lookup y = some .local) (S : BlkScope X.env.scope X.N x ys js sc) (hc : X.calm = true) (hi : PI X (.Name x px) iter wi)
    (ht : ∀ cl C s H ex, PTs (X.blk (x :: ys) sc cl C s H ex) ifs tc) (he : ∀ cl C s H ex W, GoesOn ((X.blk (x :: ys) sc cl C s H ex).wish W) F → PE ((X.blk (x :: ys) sc cl C s H ex).wish W) elt te)
    (hsw : swapsWith (.ListComp elt [⟨.Name x px, iter, ifs, 0⟩] sc pos) (some (.Name y py)) spos.line X.env = pure true := by rfl)
    (hs : ∀ v, foldedSetIterable iter X.env v = pure v := by intro _; rfl) : PS X (.Assign [.Name y py] (.ListComp elt [⟨.Name x px, iter, ifs, 0⟩] sc pos) spos) (tSetC i wi js tc te) := by
  intro pins s σ H D I h
  obtain ⟨cl, ecl, h1, h2⟩ := closure_ok (blk_cells I S)
  rw [exec_Assign_Name_used _ _ _ _ hsw]
  refine wpAny_bind (wpAny_standAt (wpAny_bind ?_))
  show wpAny _ X.A (do let _ ← comprehension (.ListComp elt [⟨.Name x px, iter, ifs, 0⟩] sc pos) sc X.env _ (newList []) false (eval iter X.env) (some (assign (.Name y py) X.env))) _ _ s
  refine wpAny_bind (wpAny_mono (wpAny_comprehension_free (use := some (assign (.Name y py) X.env)) (Q := fun _ s' => SP X pins D .next s') rfl hs ecl S.kind S.loc (thn (hi pins s σ H _ I h) fun v s1 hv => thn hv fun itv s2 h2' => ?_))
    (fun _ s' hq => wpAny_pure (wpAny_pure hq)) fun _ _ e => e)
  obtain ⟨it, fp, tn, J, H2, e, I2, T, st2, f2, q2⟩ := h2'
  subst e
  refine comp_blockX (F := F) (RR := fun acc C => compPost (model X.prog X.w) X.A X.xe (some (assign (.Name y py) X.env)) (fun _ s' => SP X pins D .next s') acc C) hc I2 S h1 h2 T st2 f2 ht he (fun D s9 H9 I9 f9 => goes_blk hex hstk hxe I9 f9) q2 ?_
  intro a C oC m s5 H5 I5 F5 ho hns I6 fin
  show wpAny _ X.A (assign (.Name y py) X.env (.ref a)) _ _ s5
  refine wpAny_mono (pg_name (X := X) (i := i) (pos := py) hN hiN (.inl hy) (.inr hy) _ s5 σ H5 (.ref a) (.ref a) (fun σ' H' => σ' = σ.set i (some (.ref a)) ∧ H' = H5) I6 rfl ⟨rfl, rfl⟩) (fun _ s6 ⟨σ6, H6, I7, e6, e7⟩ => ?_) fun _ _ e => e
  subst e6; subst e7
  have hC6 : s6.heap.get? C = some oC := (I7.pin (C, oC) (List.mem_append_right _ (List.mem_append_right _ (by simp)))).1
  refine ⟨m, hns _ hC6, fun h' hs' => ⟨_, H6, ?_, fin⟩⟩
  exact (Inv.unpinned I7).turned (t' := s6.toks) (fun b o hb e => hs'.extBut b o hb e) F5.1 F5.2.1 F5.2.2.2.1 F5.2.2.2.2.1 F5.2.2.2.2.2
end
/-- try: y = f(..) except C as n: .. -/
def tTrySet (K : PySem.W.Frag) (sp : Sp) (ta : TA) (j i len : Nat) (CT : Value) (ts : Addr → Value → TS) : TS := fun D σ H => ta σ H fun vs H1 => sp vs H1 (fun v H2 => D.nx (σ.set j (some v)) H2) fun cls _ H2 =>
  PySem.W.exmOne K cls CT = some true ∧ ∀ a, H2 a = none → ts a cls { nx := fun _ H3 => D.nx (List.replicate len none) H3, rt := D.rt, bk := fun _ H3 => D.bk (List.replicate len none) H3, ct := fun _ H3 => D.ct (List.replicate len none) H3 } (σ.set i (some (.ref a))) H2
theorem ps_trySet {X : Cx} {k j i : Nat} {x y c n : Str} {ps : List Str} {sp : Sp} {p py np cpos xpos hpos tpos : Pos} {e : Expr} {es : List Expr} {ta : TA} {C : Addr} {b₀ : Stmt} {suite : List Stmt} {ts : Addr → Value → TS} (hc : X.calm = true) (hex : X.ex = []) (hcl : X.env.cells = [])
    (hstk : X.stack = X.env :: X.outer ∧ X.env.frame = some X.env.locals) (Cf : HasX X.prog X.w X.K X.mg X.base k x ps sp) (hr : Room k X.A) (hg : Gl X x) (ha : ∀ W, PA (X.wish W) (e :: es) ta) (hgc : Gl X c) (hmc : X.mg c = some (.ref C)) (hN : X.N.Nodup) (hj : X.N[j]? = some y) (hy : X.env.scope.names.lookup y = some .local) (hi : X.N[i]? = some n) (hn : X.env.scope.names.lookup n = some .local)
    (hs : ∀ a oe cls, oe.cls = cls → PSs (X.hnd a oe) (b₀ :: suite) (ts a cls)) (hdb : (x == ("__debug__" : Str)) = false := by decide) (hdc : (c == ("__debug__" : Str)) = false := by decide) (he : starEach (e :: es) X.env = (false, eval e X.env) :: starEach es X.env := by rfl) (hpl : (backTo cpos (starEach es X.env)).any (·.1) = false := by rfl)
    (hsw : swapsWith (.Call (.Name x p) (e :: es) [] cpos) (some (.Name y py)) xpos.line X.env = pure false := by rfl) :
    PS X (.Try [.Assign [.Name y py] (.Call (.Name x p) (e :: es) [] cpos) xpos] [.ExceptHandler (some (.Name c np)) (some n) (b₀ :: suite) hpos] [] [] tpos) (tTrySet X.K sp ta j i X.N.length (.ref C) ts) := by
  intro pins s σ H D I h
  have fr := frs_stk hstk
  refine wpAny_Try_except (wpAny_execs_cons (wpAny_Assign_Name (thn (run_callX (Q := fun v H2 => D.nx (σ.set j (some v)) H2) Cf hr hg (ha _) I h (fun H1 s1 e' s' I1 cx => ?_) hdb he hpl) fun v s1 ⟨y8, H1, I1, r1, q1⟩ => ?_) hsw))
  · obtain ⟨a, T, cls, H', ee, I2, ha0, hT0, na, nT, fl, hm, hts⟩ := I1.behind cx
    subst ee
    have n0a := I1.new0 hex na
    have n0T := I1.new0 hex nT
    have two : ∀ b ∈ [a, T], b = a ∨ b = T := fun b hb => by simpa using hb
    have un : ∀ b ∈ [a, T], H' b = none := fun b hb => by rcases two b hb with z | z <;> rw [z] <;> assumption
    have u0 : ∀ b ∈ [a, T], X.s₀.heap.get? b = none := fun b hb => by rcases two b hb with z | z <;> rw [z] <;> assumption
    have pn : ∀ p ∈ X.pn ++ pins, p.1 ∉ [a, T] := fun p hp m => by
      have := (I1.pin p hp).1
      rcases two _ m with z | z
      · rw [z, na] at this; cases this
      · rw [z, nT] at this; cases this
    have kf : X.A.frames = some (X.env :: X.outer) := by rw [I.ok.frames, hstk.1]
    obtain ⟨oe, vs, a0, oT, tvs, f1, fc, f0, fd, f2, nTa, fT, fdT, f3⟩ := fl
    have FL : Heap.FlyingW (PySem.W.hideAll s'.heap ([a, T] ++ frs X.stack)) (X.env :: X.outer) a cls a0 s'.heap :=
      ⟨fun b o q => PySem.W.of_hideAll _ q, PySem.W.hideAll_none _ (by simp), I2.hid hstk.1 [a, T], oe, vs, T, oT, tvs, f1, ⟨fc, f0⟩, fd, f2, PySem.W.hideAll_none _ (by simp), nTa, fT, fdT, f3⟩
    have stay : ∀ h5, (PySem.W.hideAll s'.heap ([a, T] ++ frs X.stack)).StaysIn h5 → s'.heap.UpToSlots h5 → Stays X [a, T] s'.heap h5 := fun h5 k1 k2 =>
      ⟨fun b o b1 b2 q => k1 b o (PySem.W.hideAll_get _ q fun m => (List.mem_append.mp m).elim b1 b2), fun b o hb q => by
        obtain ⟨_, o', e', nf⟩ := I2.stack.mem hb
        rw [q] at e'
        cases e'
        exact k2 b o q nf⟩
    refine wpAny_looks_onW kf hstk.2 FL fun h4 held4 up4 => wpAny_landsW held4 fun h5 fl5 up5 => ?_
    have J5 : Inv X pins σ H' { s' with heap := h5 } := I2.stays (t' := s'.toks) hex hcl hstk (stay h5 fl5.1 (up4.trans up5)) un u0 pn
    obtain ⟨ob, hob, hobc⟩ := fl5.there
    have dat5 : ∃ ws, ob.data = .fields ws := by
      obtain ⟨_, _, _, oe5, ws, _, _, _, g1, _, g2, _⟩ := fl5
      rw [g1] at hob
      cases hob
      exact ⟨ws, g2⟩
    have aL : a ≠ X.env.locals := fun z => by
      obtain ⟨m, ⟨o, es, ep, ho, hd, _⟩, _⟩ := J5.loc
      obtain ⟨ws, hw⟩ := dat5
      rw [z] at hob
      have := hob.symm.trans ho
      cases this
      rw [hw] at hd
      cases hd
    have afs : a ∉ X.fs := fun m => by
      obtain ⟨_, o, ho, _⟩ := I1.ok.funs.mem m
      rw [n0a] at ho
      cases ho
    have ncell : ∀ (ob : Obj), (∃ ws, ob.data = .fields ws) → ∀ v, ob.data ≠ .cell v := fun ob ⟨ws, hw⟩ v q => by rw [hw] at q; cases q
    have JH5 := J5.hnd hob ha0 aL afs (ncell ob dat5)
    refine wpAny_handleBy_cons (codeAny_handlers_test (ld_glob (X := X.hnd a ob) JH5 hgc hmc ?_ hdc)) (by intro q; cases q)
    have LT : PySem.W.Looks (model X.prog X.w) h5 (typeOf (.ref a)) cls := by
      rw [← hobc]
      exact (PySem.W.Looks.ld hob).andThen .now
    refine (PySem.W.exm_one (JH5.kIn) LT hm).here ?_
    show codeAny _ _ (.handlers (.ref a) [.ExceptHandler none (some n) (b₀ :: suite) hpos] X.env) _ _
    refine codeAny_handlers_suite_as (lands_againW fl5 fun h6 fl6 up6 => ?_)
    have J6 : Inv X pins σ H' { s' with heap := h6 } := I2.stays (t' := s'.toks) hex hcl hstk (stay h6 fl6.1 ((up4.trans up5).trans up6)) un u0 pn
    obtain ⟨oc, hoc, hocc⟩ := fl6.there
    have dat6 : ∃ ws, oc.data = .fields ws := by
      obtain ⟨_, _, _, oe6, ws, _, _, _, g1, _, g2, _⟩ := fl6
      rw [g1] at hoc
      cases hoc
      exact ⟨ws, g2⟩
    have JH6 := J6.hnd hoc ha0 aL afs (ncell oc dat6)
    refine store_ok (X := X.hnd a oc) (i := i) JH6 hN hi (.inl hn) (v := .ref a) (u := .ref a) rfl (fun s7 J7 => ?_) (.inr hn)
    refine wpAny_mono (hs a oc cls hocc pins s7 _ H' _ J7 (hts a ha0)) (fun f s8 q8 => ?_) fun _ _ z => nomatch z
    have hp : (X.env.scope.kind == .class || (X.env.scope.kind == .module && X.env.locals != X.env.globals)) = false := by rw [I.ok.kind]; rfl
    have fin : ∀ {σ8 : St} {H8 : Hp}, Inv (X.hnd a oc) pins σ8 H8 s8 → (∀ s9, Inv X pins (List.replicate X.N.length none) H8 s9 → SP X pins D f s9) → wpAny (model X.prog X.w) X.A (do bindName X.env n .none; unbindBehindTheSuite X.env n hpos) (fun _ s9 => SP X pins D f s9) X.xe s8 := by
      intro σ8 H8 J8 go
      have J8 := J8.unhnd I.ok
      obtain ⟨m, hm8, _⟩ := J8.loc
      exact wpAny_nameGoes hn hm8 hp fun h9 m9 hn9 hs9 => go _ (J8.names hn9 hs9)
    cases f with
    | next => obtain ⟨σ8, H8, J8, q⟩ := q8; exact fin J8 fun s9 J9 => ⟨_, H8, J9, q⟩
    | brk => obtain ⟨σ8, H8, J8, q⟩ := q8; exact fin J8 fun s9 J9 => ⟨_, H8, J9, q⟩
    | cont => obtain ⟨σ8, H8, J8, q⟩ := q8; exact fin J8 fun s9 J9 => ⟨_, H8, J9, q⟩
    | ret u => obtain ⟨v, σ8, H8, J8, rv, q⟩ := q8; exact fin J8 fun s9 J9 => ⟨v, _, H8, J9, rv, q⟩
  · exact store_ok I1 hN hj (.inl hy) r1 (fun s2 I2 => wpAny_execs_nil (wpAny_execs_nil ⟨_, H1, I2, q1⟩)) (.inr hy)
end L2
namespace L2
open PySem PySem.Spec PyProof.Rows
/-! ### all stays but one list; a comprehension whose elements change that list; isinstance(t, tuple) of any tuple -/
def SameX (b : Addr) (H H' : Hp) : Prop := ∀ x o, x ≠ b → H x = some o → H' x = some o
theorem SameX.refl (b : Addr) (H : Hp) : SameX b H H := fun _ _ _ h => h
theorem SameX.trans {b : Addr} {H1 H2 H3 : Hp} (p : SameX b H1 H2) (q : SameX b H2 H3) : SameX b H1 H3 := fun x o ne h => q x o ne (p x o ne h)
theorem SameX.of {b : Addr} {H H' : Hp} (s : Same H H') : SameX b H H' := fun x o _ h => s x o h
theorem SameX.upd (b : Addr) (H : Hp) (o : HO) : SameX b H (upd H b o) := fun x u ne h => by rw [upd_ne ne]; exact h
theorem SameX.tk {b : Addr} {H H' : Hp} {ys : List V} (hb : H b = some (.lst ys)) (s : SameX b H H') : TupKeep H H' := fun x xs h => s x _ (fun e => by rw [e, hb] at h; cases h) h
/-- what was there ahead of the list stays -/
theorem SameX.back {b : Addr} {H H1 H2 : Hp} (h0 : H b = none) (s : Same H H1) (p : SameX b H1 H2) : Same H H2 := fun x o h => p x o (fun e => by rw [e, h0] at h; cases h) (s x o h)
theorem comp_walk {js : List Nat} {te : TE} {σ : St} {H : Hp} {Fin : Addr → Hp → Prop} {lo : Int} {n : Nat} (Pv : Addr → Nat → List V → Hp → Prop)
    (h0 : ∀ D, H D = none → Pv D 0 [] (upd H D (.lst [])))
    (hL : ∀ D i ys H', Pv D i ys H' → H' D = some (.lst ys) ∧ ys.length ≤ i)
    (he : ∀ D i ys H', i < n → H D = none → Pv D i ys H' → ∀ Q2 : VK, (∀ y H4, H4 D = some (.lst ys) → Pv D (i + 1) (ys ++ [y]) (upd H4 D (.lst (ys ++ [y]))) → Q2 y H4) → te (blkSt js σ (some (.int (lo + i)))) H' Q2)
    (hn : n ≤ sizeLine) (hd : ∀ D ys H', H D = none → Pv D n ys H' → Fin D H') : CompBy js tAll te σ (Itr lo n) H Fin := by
  intro D hD
  refine ⟨fun i m ys H' => m = n - i ∧ i ≤ n ∧ Pv D i ys H', ⟨n, by simp, Nat.zero_le _, h0 D hD⟩, ?_⟩
  rintro i m ys H' ⟨rfl, hi, p⟩
  refine ⟨(hL D i ys H' p).1, ?_⟩
  by_cases hlt : i < n
  · refine .inr ⟨hlt, fun zs H'' => Pv D (i + 1) zs H'', fun zs H'' p' => ⟨n - (i + 1), by omega, rfl, hlt, p'⟩, fun v H2 y => ?_⟩
    obtain ⟨e, y'⟩ := y
    subst e; subst y'
    have := (hL D i ys _ p).2
    dsimp only [tAll]
    rw [if_pos rfl]
    exact he D i ys _ hlt hD p _ fun y H4 h1 h2 => ⟨h1, by omega, h2⟩
  · have e : i = n := by omega
    subst e
    exact .inl ⟨Nat.le_refl _, hd D ys H' hD p⟩
section
variable {X : Cx}
theorem call_isT : CallR X (.builtin "isinstance") (fun xs H Q => ∃ (a : Addr) (ys : List V), xs = [.ref a, .ty "tuple"] ∧ SqT X.K H a ys ∧ Q (.bl true) H) := by
  intro pins s σ H xs us Q I r h
  obtain ⟨a, ys, rfl, hq, q⟩ := h
  obtain ⟨u, v, rfl, ru, rv⟩ := r.two
  cases ru
  cases rv
  obtain ⟨its, rv, ⟨o, h1, h2, _⟩, hz⟩ := I.tuple hq
  exact PySem.W.kia_one PySem.W.kitx_tuple I.kIn ⟨o, h1, h2⟩ (kit_same X.K "tuple") (fun z => nomatch z) fun tk => ⟨.bl true, H, I.tok tk, rfl, q⟩
end
end L2
local macro_rules | `(tactic| walk_at "rq") => `(tactic| first | assumption | exact L2.SqL.of (by assumption) | exact L2.SqT.of (by assumption) | exact L2.Same.seq (by assumption) (by assumption) | exact L2.Same.seqT (by assumption) (by assumption))
local macro_rules | `(tactic| walk_at "rs") => `(tactic| first | decide | (dsimp only; omega) | assumption | exact My.flat_ints _ | exact My.plain_ints _ | exact ⟨by decide, by decide⟩ | exact ⟨by omega, by omega⟩ | exact .inl ⟨by decide, by decide⟩ | exact .inr ⟨by decide, by decide⟩ | exact .inl ⟨by omega, by omega⟩ | exact .inr ⟨by omega, by omega⟩)
local macro_rules | `(tactic| walk_at "r1") => `(tactic| first | refine ⟨_, rfl, ?_⟩ | refine ⟨_, _, rfl, rfl, ?_⟩ | refine ⟨rfl, ?_⟩ | refine ⟨by walk_at "rs", ?_⟩ | refine ⟨_, _, rfl, .inl (by walk_at "rq"), ?_⟩ | refine ⟨_, _, rfl, .inr (by walk_at "rq"), ?_⟩ | refine ⟨_, _, _, _, rfl, rfl, by walk_at "rq", by first | assumption | rfl, ?_⟩)
local macro_rules | `(tactic| walk_at "rd") => `(tactic| repeat walk_at "r1")
namespace My
open PySem L2
def top (i : Nat) : Stmt := PySem.Challenge.pw_tonemirror_k45_sayings_written.main.body.getD i (.Pass ⟨0, 0, 0, 0⟩)

def cma : Str := Str.ofString ","
theorem cma_is : cma = ⟨#[44]⟩ := by decide +kernel
/-- texts with a comma between each two, none as - -/
def jn : List Str → Str
  | [] => "-"
  | t :: ts => Str.join cma (t :: ts)
def lT (t : Bool) : Str := match t with
  | true => "t"
  | false => "m"
def chT (t : Bool) (m : Int) : Str := lT t ++ iS m
def pT (c : Int × Int) : Str := iS c.1 ++ ">" ++ iS c.2
theorem emp_app (x : Str) : Str.empty ++ x = x := str_list (by rw [app_list]; rfl)
theorem iS_fin : ∀ a b : Fin 24, iS (a.val : Int) = iS (b.val : Int) → a = b := by decide +kernel
theorem iS_inj {x y : Int} (hx : 0 ≤ x ∧ x < 24) (hy : 0 ≤ y ∧ y < 24) (h : iS x = iS y) : x = y := by
  have e1 : x = ((⟨x.toNat, by omega⟩ : Fin 24).val : Int) := by show x = ((x.toNat : Nat) : Int); omega
  have e2 : y = ((⟨y.toNat, by omega⟩ : Fin 24).val : Int) := by show y = ((y.toNat : Nat) : Int); omega
  rw [e1, e2] at h
  have := iS_fin _ _ h
  have := congrArg Fin.val this
  have : x.toNat = y.toNat := this
  omega
theorem iS_facts : ∀ a : Fin 24, (iS (a.val : Int)).length ≤ 2 ∧ 1 ≤ (iS (a.val : Int)).length ∧ 44 ∉ (iS (a.val : Int)).cps.toList ∧ iS (a.val : Int) ≠ "-" := by decide +kernel
theorem iS_at {x : Int} (hx : 0 ≤ x ∧ x < 24) : (iS x).length ≤ 2 ∧ 1 ≤ (iS x).length ∧ 44 ∉ (iS x).cps.toList ∧ iS x ≠ "-" := by
  have e1 : x = ((⟨x.toNat, by omega⟩ : Fin 24).val : Int) := by show x = ((x.toNat : Nat) : Int); omega
  rw [e1]
  exact iS_facts _
theorem chT_facts : ∀ (t : Bool) (a : Fin 24), cutS (chT t (a.val : Int)) (some 1) none = iS (a.val : Int) ∧ Txt.startswith (chT t (a.val : Int)) "t" = t ∧ Txt.startswith (chT t (a.val : Int)) "m" = !t ∧ (chT t (a.val : Int)).length ≤ 3 := by decide +kernel
theorem chT_at (t : Bool) {x : Int} (hx : 0 ≤ x ∧ x < 24) : cutS (chT t x) (some 1) none = iS x ∧ Txt.startswith (chT t x) "t" = t ∧ Txt.startswith (chT t x) "m" = !t ∧ (chT t x).length ≤ 3 := by
  have e1 : x = ((⟨x.toNat, by omega⟩ : Fin 24).val : Int) := by show x = ((x.toNat : Nat) : Int); omega
  rw [e1]
  exact chT_facts t _
theorem lT_len (t : Bool) : (lT t).length ≤ 1 := by cases t <;> decide +kernel
theorem lg_small {x : Int} (hx : 0 ≤ x ∧ x < 24) : x.natAbs.log2 < 1920 := by
  refine Nat.lt_of_le_of_lt (Nat.log2_le_self _) ?_
  omega
theorem slen2 {a b : Str} {x y : Nat} (ha : a.length ≤ x) (hb : b.length ≤ y) : (a ++ b).length ≤ x + y := by
  rw [strLen_append]
  omega
theorem flat_strs (ts : List Str) : (ts.map V.str).all flatV = true := by
  rw [List.all_map, List.all_eq_true]
  intro x _
  rfl
theorem inV_str (x : Str) (ts : List Str) : inV (V.str x) (ts.map V.str) = decide (x ∈ ts) := by
  unfold inV
  rw [List.any_map, Bool.eq_iff_iff]
  simp only [List.any_eq_true, Function.comp, decide_eq_true_eq]
  constructor
  · rintro ⟨y, hy, e⟩
    have : y = x := by simpa [eqV] using e
    rw [← this]; exact hy
  · intro h
    exact ⟨x, h, by simp [eqV]⟩
theorem join_len : ∀ (ts : List Str), (∀ t ∈ ts, t.length ≤ 2) → (Str.join cma ts).length ≤ 3 * ts.length
  | [], _ => by decide +kernel
  | [t], h => by
    have := h t List.mem_cons_self
    show t.length ≤ 3
    omega
  | t :: u :: ts, h => by
    have ih := join_len (u :: ts) fun x hx => h x (List.mem_cons_of_mem _ hx)
    have := h t List.mem_cons_self
    show (t ++ cma ++ Str.join cma (u :: ts)).length ≤ _
    rw [strLen_append, strLen_append]
    have c1 : cma.length = 1 := by decide +kernel
    simp only [List.length_cons] at ih ⊢
    omega
theorem join_pos {t : Str} {ts : List Str} (h : 1 ≤ t.length) : 1 ≤ (Str.join cma (t :: ts)).length := by
  cases ts with
  | nil => exact h
  | cons u ts =>
    show 1 ≤ (t ++ cma ++ Str.join cma (u :: ts)).length
    rw [strLen_append, strLen_append]
    omega
theorem join_comma {t u : Str} {ts : List Str} : 44 ∈ (Str.join cma (t :: u :: ts)).cps.toList := by
  show 44 ∈ (t ++ cma ++ Str.join cma (u :: ts)).cps.toList
  rw [app_list, app_list, cma_is]
  simp
theorem jn_ne {x : Int} {xs : List Int} (hb : ∀ y ∈ x :: xs, 0 ≤ y ∧ y < 24) : Str.join cma ((x :: xs).map iS) ≠ "-" := by
  cases xs with
  | nil => exact (iS_at (hb x List.mem_cons_self)).2.2.2
  | cons y xs =>
    intro e
    have : 44 ∈ (("-" : String) : Str).cps.toList := by rw [← e]; exact join_comma
    exact absurd this (by decide +kernel)
theorem jn_split {x : Int} {xs : List Int} (hb : ∀ y ∈ x :: xs, 0 ≤ y ∧ y < 24) : Txt.split (Str.join cma ((x :: xs).map iS)) cma = (x :: xs).map iS := by
  have hne : (Str.join cma ((x :: xs).map iS)).length ≠ 0 := by
    have := join_pos (ts := xs.map iS) (iS_at (hb x List.mem_cons_self)).2.1
    rw [List.map_cons]
    omega
  rw [cma_is] at hne ⊢
  refine split_of_join (by simp) (fun t ht => ?_) hne
  obtain ⟨y, hy, rfl⟩ := List.mem_map.mp ht
  exact (iS_at (hb y hy)).2.2.1
theorem cw_self {n : Int} {xs : List Int} (h : Tones n xs) : (cw n fun y => decide (y ∈ xs.map (· % n))) = xs := by
  refine Tones.ext (cw_tones _ _) h fun x => ?_
  rw [cw_mem, decide_eq_true_iff, List.mem_map]
  constructor
  · rintro ⟨_, y, hy, rfl⟩
    have := h.2 y hy
    rw [Int.emod_eq_of_lt this.1 this.2]
    exact hy
  · intro hx
    have := h.2 x hx
    exact ⟨this, x, hx, Int.emod_eq_of_lt this.1 this.2⟩
theorem rng_tones (n : Int) : Tones n (rng n) := ⟨rng_pw n, fun _ hx => rng_mem.mp hx⟩

/-- a saying's head, over the sayings straight within it -/
inductive SyF (α : Type) where
  | ch (t : Bool) (m : Int)
  | row (l : List α)
  | tm (s : α) (k : Int)
  | un (s : α)
/-- sayings of at most so many within one another -/
def Sy : Nat → Type
  | 0 => Empty
  | d + 1 => SyF (Sy d)
def SayF {α : Type} (H : Hp) (R : V → α → Prop) (v : V) : SyF α → Prop
  | .ch t m => ∃ p q, v = .ref p ∧ H p = some (.tup [V.str "change", .ref q]) ∧ H q = some (.tup (chV t m))
  | .row l => ∃ p q vs, v = .ref p ∧ H p = some (.tup [V.str "row", .ref q]) ∧ H q = some (.tup vs) ∧ Paired R vs l
  | .tm u k => ∃ p w, v = .ref p ∧ H p = some (.tup [V.str "times", w, .int k]) ∧ R w u
  | .un u => ∃ p w, v = .ref p ∧ H p = some (.tup [V.str "undo", w]) ∧ R w u
/-- a value that is the saying -/
def SayR (H : Hp) : (d : Nat) → V → Sy d → Prop
  | 0, _, _ => False
  | d + 1, v, s => SayF H (SayR H d) v (show SyF (Sy d) from s)
theorem SayF.mono {α : Type} {H1 H2 : Hp} {R S : V → α → Prop} {v : V} (t : TupKeep H1 H2) (f : ∀ x y, R x y → S x y) : ∀ s : SyF α, SayF H1 R v s → SayF H2 S v s
  | .ch _ _, ⟨p, q, e, h1, h2⟩ => ⟨p, q, e, t _ _ h1, t _ _ h2⟩
  | .row _, ⟨p, q, vs, e, h1, h2, pr⟩ => ⟨p, q, vs, e, t _ _ h1, t _ _ h2, prd_imp f pr⟩
  | .tm _ _, ⟨p, w, e, h1, r⟩ => ⟨p, w, e, t _ _ h1, f _ _ r⟩
  | .un _, ⟨p, w, e, h1, r⟩ => ⟨p, w, e, t _ _ h1, f _ _ r⟩
theorem SayR.mono {H1 H2 : Hp} (t : TupKeep H1 H2) : ∀ (d : Nat) (v : V) (s : Sy d), SayR H1 d v s → SayR H2 d v s
  | 0, _, _, h => h
  | d + 1, _, s, h => SayF.mono t (fun x y r => SayR.mono t d x y r) (show SyF (Sy d) from s) h

/-- a change within a saying -/
def ChR (H : Hp) (v : V) (c : Bool × Int) : Prop := ∃ p q, v = .ref p ∧ H p = some (.tup [V.str "change", .ref q]) ∧ H q = some (.tup (chV c.1 c.2))
theorem ChR.mono {H1 H2 : Hp} {v : V} {c : Bool × Int} (t : TupKeep H1 H2) : ChR H1 v c → ChR H2 v c
  | ⟨p, q, e, h1, h2⟩ => ⟨p, q, e, t _ _ h1, t _ _ h2⟩
theorem chs_of {H : Hp} : ∀ {ws : List V} {bs : List Int}, Paired (fun v _ => ∃ c, ChR H v c) ws bs → ∃ cs : List (Bool × Int), Paired (ChR H) ws cs
  | [], _, _ => ⟨[], .nil⟩
  | _ :: _, _, .cons ⟨c, r⟩ h => let ⟨cs, p⟩ := chs_of h; ⟨c :: cs, .cons r p⟩
theorem chs_say {H : Hp} (d : Nat) : ∀ {ws : List V} {cs : List (Bool × Int)}, Paired (ChR H) ws cs → Paired (SayR H (d + 1)) ws (cs.map fun c => (SyF.ch c.1 c.2 : SyF (Sy d)))
  | [], _, .nil => .nil
  | _ :: _, _, .cons r h => .cons r (chs_say d h)
def isTm : (d : Nat) → Sy d → Prop
  | 0, _ => False
  | d + 1, s => match (show SyF (Sy d) from s) with
    | .tm _ _ => True
    | _ => False
/-- within its bounds; with fl = 0 such as can be written -/
def Good (n fl : Int) : (d : Nat) → Sy d → Prop
  | 0, _ => True
  | d + 1, s => match (show SyF (Sy d) from s) with
    | .ch _ m => 0 ≤ m ∧ m < n
    | .row l => l.length ≤ 60 ∧ ∀ u ∈ l, Good n fl d u
    | .tm u k => 0 ≤ k ∧ k ≤ 10 ^ 30 ∧ Good n fl d u ∧ (fl = 0 → ¬ isTm d u)
    | .un u => Good n fl d u ∧ (fl = 0 → ¬ isTm d u)
/-- how many sayings altogether -/
def nod : (d : Nat) → Sy d → Nat
  | 0, _ => 0
  | d + 1, s => match (show SyF (Sy d) from s) with
    | .ch _ _ => 1
    | .row l => 1 + (l.map (nod d)).sum
    | .tm u _ => 1 + nod d u
    | .un u => 1 + nod d u
def cntS : Nat → Nat
  | 0 => 0
  | d + 1 => 1 + 3 * cntS d
theorem cntS_succ (d : Nat) : ((cntS (d + 1) : Nat) : Int) = 1 + 3 * (cntS d : Int) := by
  show (((1 + 3 * cntS d : Nat)) : Int) = _
  omega
theorem two_at (c : Int) : ∃ t : Bool, atI [V.str "turn", V.str "mirror"] (c % 2) = some (V.str (kS t)) := by
  rcases (by omega : c % 2 = 0 ∨ c % 2 = 1) with e | e
  · rw [e]; exact ⟨true, rfl⟩
  · rw [e]; exact ⟨false, rfl⟩
theorem three_fit : 3 ≤ sizeLine := by decide
theorem pow_ok {j : Int} (h0 : 0 ≤ j) (h1 : j ≤ 1000) : CPow 10 j := ⟨h0, by omega, by decide⟩
theorem pow_pos (j : Nat) : (0 : Int) < 10 ^ j := Int.pow_pos (by decide)
theorem step_le {j m : Nat} (h : j < 4) : j * m ≤ 3 * m := Nat.mul_le_mul_right m (by omega)

/-- the text of a saying -/
def txt : (d : Nat) → Sy d → Str
  | 0, _ => Str.ofString ""
  | d + 1, s => match (show SyF (Sy d) from s) with
    | .ch t m => chT t m
    | .row l => Str.ofString "(" ++ Str.join (Str.ofString " ") (l.map (txt d)) ++ Str.ofString ")"
    | .tm u k => txt d u ++ Str.ofString "*" ++ iS k
    | .un u => Str.ofString "~" ++ txt d u
/-- such as can be written -/
def Wr : (d : Nat) → Sy d → Prop
  | 0, _ => True
  | d + 1, s => match (show SyF (Sy d) from s) with
    | .ch _ _ => True
    | .row l => ∀ u ∈ l, Wr d u
    | .tm u _ => ¬ isTm d u ∧ Wr d u
    | .un u => ¬ isTm d u ∧ Wr d u
theorem good_wr {n : Int} : ∀ (d : Nat) (s : Sy d), Good n 0 d s → Wr d s
  | 0, s, _ => True.intro
  | d + 1, s, g => by
    match (show SyF (Sy d) from s), (show Good n 0 (d + 1) (show SyF (Sy d) from s) from g) with
    | .ch _ _, _ => exact True.intro
    | .row l, g => exact fun u hu => good_wr d u (g.2 u hu)
    | .tm u k, g => exact ⟨g.2.2.2 rfl, good_wr d u g.2.2.1⟩
    | .un u, g => exact ⟨g.2 rfl, good_wr d u g.1⟩
theorem join_le {sep : Str} (h1 : sep.length = 1) : ∀ ts : List Str, (Str.join sep ts).length ≤ (ts.map fun t => t.length + 1).sum
  | [] => by
    show (Str.ofString "").length ≤ 0
    decide +kernel
  | [t] => by
    show t.length ≤ (t.length + 1) + 0
    omega
  | t :: u :: ts => by
    have ih := join_le h1 (u :: ts)
    show (t ++ sep ++ Str.join sep (u :: ts)).length ≤ (t.length + 1) + ((u :: ts).map fun t => t.length + 1).sum
    rw [strLen_append, strLen_append]
    omega
theorem sum_le {α : Type} {f h : α → Nat} {k : Nat} : ∀ (l : List α), (∀ u ∈ l, f u ≤ k * h u) → (l.map f).sum ≤ k * (l.map h).sum
  | [], _ => Nat.le_refl _
  | u :: l, p => by
    have a := p u List.mem_cons_self
    have b := sum_le l fun x hx => p x (List.mem_cons_of_mem _ hx)
    show f u + (l.map f).sum ≤ k * (h u + (l.map h).sum)
    rw [Nat.mul_add]
    omega
theorem mem_sum {α : Type} {f : α → Nat} {u : α} : ∀ {l : List α}, u ∈ l → f u ≤ (l.map f).sum
  | x :: l, h => by
    show f u ≤ f x + (l.map f).sum
    rcases List.mem_cons.mp h with rfl | h
    · omega
    · have := mem_sum (f := f) h
      omega
theorem at_head (y : V) (xs : List V) : atI (y :: xs) 0 = some y := by
  unfold atI
  rw [show ixN (y :: xs).length 0 = some 0 from by
    unfold ixN
    rw [if_pos (Int.le_refl 0), if_pos (by rw [List.length_cons]; omega)]
    rfl]
  rfl
theorem sp_one : (Str.ofString " ").length = 1 := by decide +kernel
theorem iS_big {k : Int} (h0 : 0 ≤ k) (h1 : k ≤ 10 ^ 30) : (iS k).length ≤ 31 := iS_len h0 (by decide) (by omega)
theorem log_big {k : Int} (h0 : 0 ≤ k) (h1 : k ≤ 10 ^ 30) : k.natAbs.log2 < 1920 := by
  by_cases h : k.natAbs = 0
  · rw [h]; decide
  · refine (Nat.log2_lt h).mpr (Nat.lt_of_le_of_lt (show k.natAbs ≤ 10 ^ 30 by omega) ?_)
    refine Nat.lt_of_lt_of_le (show 10 ^ 30 < 2 ^ 100 by decide) (Nat.pow_le_pow_right (by decide) (by decide))
theorem txt_len {n fl : Int} (n24 : n ≤ 24) : ∀ (d : Nat) (s : Sy d), Good n fl d s → (txt d s).length + 2 ≤ 50 * nod d s
  | 0, s, _ => nomatch (show Empty from s)
  | d + 1, s, g => by
    match (show SyF (Sy d) from s), (show Good n fl (d + 1) (show SyF (Sy d) from s) from g) with
    | .ch t m, g =>
      show (lT t ++ iS m).length + 2 ≤ 50 * 1
      have a := lT_len t
      have b := (iS_at ⟨g.1, Int.lt_of_lt_of_le g.2 n24⟩).1
      rw [strLen_append]
      omega
    | .row l, g =>
      show (Str.ofString "(" ++ Str.join (Str.ofString " ") (l.map (txt d)) ++ Str.ofString ")").length + 2 ≤ 50 * (1 + (l.map (nod d)).sum)
      have a := join_le sp_one (l.map (txt d))
      rw [List.map_map] at a
      have b := sum_le (f := (fun t => t.length + 1) ∘ txt d) (h := nod d) (k := 50) l fun u hu => by
        have := txt_len n24 d u (g.2 u hu)
        show (txt d u).length + 1 ≤ 50 * nod d u
        omega
      have o1 : (Str.ofString "(").length = 1 := by decide +kernel
      have o2 : (Str.ofString ")").length = 1 := by decide +kernel
      rw [strLen_append, strLen_append]
      omega
    | .tm u k, g =>
      show (txt d u ++ Str.ofString "*" ++ iS k).length + 2 ≤ 50 * (1 + nod d u)
      have a := txt_len n24 d u g.2.2.1
      have b := iS_big g.1 g.2.1
      have o1 : (Str.ofString "*").length = 1 := by decide +kernel
      rw [strLen_append, strLen_append]
      omega
    | .un u, g =>
      show (Str.ofString "~" ++ txt d u).length + 2 ≤ 50 * (1 + nod d u)
      have a := txt_len n24 d u g.1
      have o1 : (Str.ofString "~").length = 1 := by decide +kernel
      rw [strLen_append]
      omega
theorem fit_big {k : Nat} (h : k ≤ 1000000) : k ≤ sizeLine := Nat.le_trans h (by decide)
theorem row_join {n fl : Int} (n24 : n ≤ 24) {d : Nat} {l : List (Sy d)} (hl : l.length ≤ 60) (hg : ∀ u ∈ l, Good n fl d u) (hn : ∀ u ∈ l, nod d u ≤ 3280) : JoinOk (Str.ofString " ") (l.map (txt d)) = true := by
  refine join_ok (B := 164000) (fun y hy => ?_) ?_
  · obtain ⟨u, hu, rfl⟩ := List.mem_map.mp hy
    have := txt_len n24 d u (hg u hu)
    have := hn u hu
    omega
  · rw [List.length_map, sp_one]
    omega
theorem prd_zip {α : Type} {R : V → α → Prop} {us : List V} {l : List α} (pr : Paired R us l) : ∃ bs : List (V × α), bs.map (·.1) = us ∧ bs.map (·.2) = l ∧ ∀ b ∈ bs, R b.1 b.2 := by
  induction pr with
  | nil => exact ⟨[], rfl, rfl, fun b hb => by cases hb⟩
  | cons r _ ih =>
    obtain ⟨bs, h1, h2, h3⟩ := ih
    refine ⟨(_, _) :: bs, by rw [List.map_cons, h1], by rw [List.map_cons, h2], fun b hb => ?_⟩
    rcases List.mem_cons.mp hb with rfl | hb
    · exact r
    · exact h3 b hb
theorem say_head {H : Hp} : ∀ {d : Nat} {v : V} {s : Sy d}, SayR H d v s → ∃ (p : Addr) (x : Str) (xs : List V), v = .ref p ∧ H p = some (.tup (V.str x :: xs)) ∧ (decide (V.str x = V.str (Str.ofString "times")) = true ↔ isTm d s)
  | 0, _, _, h => h.elim
  | d + 1, v, s, h => by
    match (show SyF (Sy d) from s), (show SayF H (SayR H d) v (show SyF (Sy d) from s) from h) with
    | .ch _ _, ⟨p, q, e, h1, _⟩ => exact ⟨p, _, _, e, h1, ⟨fun z => absurd z (by decide +kernel), fun z => z.elim⟩⟩
    | .row _, ⟨p, q, _, e, h1, _⟩ => exact ⟨p, _, _, e, h1, ⟨fun z => absurd z (by decide +kernel), fun z => z.elim⟩⟩
    | .tm _ _, ⟨p, w, e, h1, _⟩ => exact ⟨p, _, _, e, h1, ⟨fun _ => True.intro, fun _ => decide_eq_true rfl⟩⟩
    | .un _, ⟨p, w, e, h1, _⟩ => exact ⟨p, _, _, e, h1, ⟨fun z => absurd z (by decide +kernel), fun z => z.elim⟩⟩

theorem good_mono {n : Int} : ∀ (d : Nat) (s : Sy d), Good n 0 d s → Good n 1 d s
  | 0, s, _ => True.intro
  | d + 1, s, g => by
    match (show SyF (Sy d) from s), (show Good n 0 (d + 1) (show SyF (Sy d) from s) from g) with
    | .ch _ _, g => exact g
    | .row l, g => exact ⟨g.1, fun u hu => good_mono d u (g.2 u hu)⟩
    | .tm u k, g => exact ⟨g.1, g.2.1, good_mono d u g.2.2.1, fun z => absurd z (by decide)⟩
    | .un u, g => exact ⟨good_mono d u g.1, fun z => absurd z (by decide)⟩
theorem nod_chs (d : Nat) : ∀ cs : List (Bool × Int), (((cs.map fun c => (SyF.ch c.1 c.2 : SyF (Sy d))).map (nod (d + 1))).sum) = cs.length
  | [] => rfl
  | c :: cs => by
    have ih := nod_chs d cs
    show 1 + (((cs.map fun c => (SyF.ch c.1 c.2 : SyF (Sy d))).map (nod (d + 1))).sum) = cs.length + 1
    omega
theorem at_zero {w : V} {ws : List V} : atI (w :: ws) 0 = some w := at_head w ws

structure Txt (K : PySem.W.Frag) (mg : Str → Option Value) : Prop where
  b_len : mg "len" = none
  b_max : mg "max" = none
  b_range : mg "range" = none
  b_list : mg "list" = none
  b_tuple : mg "tuple" = none
  b_str : mg "str" = none
  b_isinstance : mg "isinstance" = none
  b_ValueError : mg "ValueError" = none
  g_EXCS : ∃ c_ToneError c_NoText c_NoHalf c_NoLeading c_NoRow c_Unknown : Addr, mg "ToneError" = some (.ref c_ToneError) ∧ mg "NoText" = some (.ref c_NoText) ∧ mg "NoHalf" = some (.ref c_NoHalf) ∧ mg "NoLeading" = some (.ref c_NoLeading) ∧ mg "NoRow" = some (.ref c_NoRow) ∧ mg "Unknown" = some (.ref c_Unknown) ∧ PySem.W.nsIn K mainGlobals "NoText" = some (some (.ref c_NoText)) ∧ PySem.W.excIn K c_NoText [.type "ValueError", .type "Exception", .type "BaseException", .type "object"] "ValueError.__new__" = true ∧ PySem.W.exmOne K (.ref c_NoText) (.ref c_ToneError) = some true ∧ PySem.W.XcOk K c_NoText ∧ PySem.W.kitOne K (.ref c_NoText) (.ref c_NoText) = some true ∧ PySem.W.kitOne K (.ref c_NoText) (.type "ValueError") = some true ∧ PySem.W.kitAny K (.ref c_NoText) [.ref c_NoHalf, .ref c_NoLeading, .ref c_NoRow, .ref c_Unknown] = some false
abbrev s_change_text : Stmt := top 8
theorem sc_change_text : FnScope ["change", "letter"] ["change"] (defScope s_change_text) := ⟨rfl, rfl, rfl, by decide +kernel, rfl, by decide +kernel, by decide +kernel⟩
def sp_change_text (wd : World) (K : PySem.W.Frag) : Sp := fun vs H Q _ => ∃ (c : Addr) (t : Bool) (m : Int), vs = [.ref c] ∧ H c = some (.tup (chV t m)) ∧ 0 ≤ m ∧ m < 24 ∧ Q (.str (chT t m)) H
abbrev s_saying_text : Stmt := top 10
theorem sc_saying_text : FnScope ["saying"] ["saying"] (defScope s_saying_text) := ⟨rfl, rfl, rfl, by decide +kernel, rfl, by decide +kernel, by decide +kernel⟩
def sp_saying_text (d : Nat) (wd : World) (K : PySem.W.Frag) : Sp := fun vs H Q E => ∃ (g : Nat) (v : V) (s : Sy g) (n fl : Int), vs = [v] ∧ g ≤ d ∧ n ≤ 24 ∧ SayR H g v s ∧ Good n fl g s ∧ nod g s ≤ 3280 ∧ (Wr g s → ∀ H', Same H H' → Q (.str (txt g s)) H') ∧ (¬ Wr g s → ∀ H', Same H H' → ∀ C, PySem.W.nsIn K mainGlobals "NoText" = some (some (.ref C)) → E (.ref C) none H')
abbrev s_l_cell_at : Stmt := top 12
theorem sc_l_cell_at : FnScope ["_law_script", "_law_k"] ["_law_script", "_law_k"] (defScope s_l_cell_at) := ⟨rfl, rfl, rfl, by decide +kernel, rfl, by decide +kernel, by decide +kernel⟩
def sp_l_cell_at (wd : World) (K : PySem.W.Frag) : Sp := fun vs H Q _ => ∃ (a : Addr) (ns : List Int) (k : Int), vs = [.ref a, .int k] ∧ SqL K H a (ns.map V.int) ∧ ns.length ≤ 63 ∧ ∀ c : Int, Q (.int c) H
abbrev s_l_mixed : Stmt := top 13
theorem sc_l_mixed : FnScope ["_law_script", "_law_k", "_law_salt", "_law_cell", "_law_lap", "_law_near"] ["_law_script", "_law_k", "_law_salt"] (defScope s_l_mixed) := ⟨rfl, rfl, rfl, by decide +kernel, rfl, by decide +kernel, by decide +kernel⟩
def sp_l_mixed (wd : World) (K : PySem.W.Frag) : Sp := fun vs H Q _ => ∃ (a : Addr) (ns : List Int) (k z : Int), vs = [.ref a, .int k, .int z] ∧ SqL K H a (ns.map V.int) ∧ ns.length ≤ 63 ∧ (0 ≤ k ∧ k ≤ 1000000) ∧ (0 ≤ z ∧ z ≤ 1000000) ∧ ∀ c : Int, 0 ≤ c → c < 2147483648 → Q (.int c) H
abbrev s_l_wheel : Stmt := top 14
theorem sc_l_wheel : FnScope ["_law_script", "_law_most"] ["_law_script", "_law_most"] (defScope s_l_wheel) := ⟨rfl, rfl, rfl, by decide +kernel, rfl, by decide +kernel, by decide +kernel⟩
def sp_l_wheel (wd : World) (K : PySem.W.Frag) : Sp := fun vs H Q _ => ∃ (a : Addr) (ns : List Int), vs = [.ref a, .int 24] ∧ SqL K H a (ns.map V.int) ∧ ns.length ≤ 63 ∧ ∀ n : Int, 3 ≤ n → n ≤ 24 → Q (.int n) H
abbrev s_l_bare : Stmt := top 16
theorem sc_l_bare : FnScope ["_law_script", "_law_bag", "_law_n", "_law_deep", "_law_found"] ["_law_script", "_law_bag", "_law_n", "_law_deep"] (defScope s_l_bare) := ⟨rfl, rfl, rfl, by decide +kernel, rfl, by decide +kernel, by decide +kernel⟩
def sp_l_bare (d : Nat) (wd : World) (K : PySem.W.Frag) : Sp := fun vs H Q _ => ∃ (g : Nat) (a : Addr) (ns : List Int) (b : Addr) (i li fl n : Int), vs = [.ref a, .ref b, .int n, .int (g : Int)] ∧ (∀ H', SameX b H H' → SqL K H' a (ns.map V.int)) ∧ ns.length ≤ 63 ∧ H b = some (.lst [.int i, .int li, .int fl]) ∧ (0 ≤ i ∧ i + ((cntS g : Nat) : Int) ≤ 1000000) ∧ 0 < n ∧ n ≤ 24 ∧ 0 < g ∧ g ≤ d ∧ ∀ (v : V) (H' : Hp) (i' : Int) (s : Sy g), SameX b H H' → H' b = some (.lst [.int i', .int li, .int fl]) → i ≤ i' → i' ≤ i + ((cntS g : Nat) : Int) → SayR H' g v s → Good n fl g s → ((nod g s : Nat) : Int) ≤ i' - i → (fl = 0 → ¬ isTm g s) → Q v H'
abbrev s_l_saying : Stmt := top 15
theorem sc_l_saying : FnScope ["_law_script", "_law_bag", "_law_n", "_law_deep", "_law_number", "_law_way", "_law_many"] ["_law_script", "_law_bag", "_law_n", "_law_deep"] (defScope s_l_saying) := ⟨rfl, rfl, rfl, by decide +kernel, rfl, by decide +kernel, by decide +kernel⟩
def sp_l_saying (d : Nat) (wd : World) (K : PySem.W.Frag) : Sp := fun vs H Q _ => ∃ (g : Nat) (a : Addr) (ns : List Int) (b : Addr) (i li fl n : Int), vs = [.ref a, .ref b, .int n, .int (g : Int)] ∧ (∀ H', SameX b H H' → SqL K H' a (ns.map V.int)) ∧ ns.length ≤ 63 ∧ H b = some (.lst [.int i, .int li, .int fl]) ∧ (0 ≤ i ∧ i + ((cntS g : Nat) : Int) ≤ 1000000) ∧ 0 < n ∧ n ≤ 24 ∧ 0 < g ∧ g ≤ d ∧ ∀ (v : V) (H' : Hp) (i' : Int) (s : Sy g), SameX b H H' → H' b = some (.lst [.int i', .int li, .int fl]) → i ≤ i' → i' ≤ i + ((cntS g : Nat) : Int) → SayR H' g v s → Good n fl g s → ((nod g s : Nat) : Int) ≤ i' - i → Q v H'
abbrev s_l_saying_row : Stmt := top 17
theorem sc_l_saying_row : FnScope ["_law_saying_here"] ["_law_saying_here"] (defScope s_l_saying_row) := ⟨rfl, rfl, rfl, by decide +kernel, rfl, by decide +kernel, by decide +kernel⟩
def sp_l_saying_row (d : Nat) (wd : World) (K : PySem.W.Frag) : Sp := fun vs H Q _ => ∃ (g : Nat) (v : V) (s : Sy g) (n fl : Int), vs = [v] ∧ g ≤ d ∧ n ≤ 24 ∧ SayR H g v s ∧ Good n fl g s ∧ nod g s ≤ 3280 ∧ ∀ H', Same H H' → Q (.str (txt g s)) H'
abbrev s_l_written : Stmt := top 19
theorem sc_l_written : FnScope ["_law_saying_here", "_law_found"] ["_law_saying_here"] (defScope s_l_written) := ⟨rfl, rfl, rfl, by decide +kernel, rfl, by decide +kernel, by decide +kernel⟩
def sp_l_written (wd : World) (K : PySem.W.Frag) : Sp := fun vs H Q _ => ∃ (g : Nat) (v : V) (s : Sy g) (n : Int), vs = [v] ∧ g ≤ 8 ∧ n ≤ 24 ∧ SayR H g v s ∧ Good n 0 g s ∧ nod g s ≤ 3280 ∧ ∀ H', Same H H' → Q (.bl true) H'
abbrev s_l_refused : Stmt := top 18
theorem sc_l_refused : FnScope ["_law_saying_here", "e", "_law_wrong"] ["_law_saying_here"] (defScope s_l_refused) := ⟨rfl, rfl, rfl, by decide +kernel, rfl, by decide +kernel, by decide +kernel⟩
def sp_l_refused (wd : World) (K : PySem.W.Frag) : Sp := fun vs H Q _ => ∃ (g : Nat) (v : V) (s : Sy g) (n fl : Int), vs = [v] ∧ g ≤ 8 ∧ n ≤ 24 ∧ SayR H g v s ∧ Good n fl g s ∧ nod g s ≤ 3280 ∧ ¬ Wr g s ∧ ∀ H', Same H H' → Q (.bl true) H'
abbrev s_l_bounds : Stmt := top 20
theorem sc_l_bounds : FnScope ["_law_script", "_law_n", "_law_row", "_law_k", "_law_number", "_law_deep"] ["_law_script", "_law_n"] (defScope s_l_bounds) := ⟨rfl, rfl, rfl, by decide +kernel, rfl, by decide +kernel, by decide +kernel⟩
def sp_l_bounds (wd : World) (K : PySem.W.Frag) : Sp := fun vs H Q _ => ∃ (a : Addr) (ns : List Int) (n : Int), vs = [.ref a, .int n] ∧ SqL K H a (ns.map V.int) ∧ ns.length ≤ 63 ∧ 0 < n ∧ n ≤ 24 ∧ ∀ H', Same H H' → Q (.bl true) H'
abbrev s_law : Stmt := top 21
theorem sc_law : FnScope ["_law_script", "_law_n", "_law_k", "_law_saying_here", "_law_number", "_law_many", "_law_bad"] ["_law_script"] (defScope s_law) := ⟨rfl, rfl, rfl, by decide +kernel, rfl, by decide +kernel, by decide +kernel⟩
def sp_law (wd : World) (K : PySem.W.Frag) : Sp := fun vs H Q _ => ∃ (a : Addr) (ns : List Int), vs = [.ref a] ∧ SqL K H a (ns.map V.int) ∧ ns.length ≤ 63 ∧ ∀ H', Q (.bl true) H'
section
variable {P : Program} {w : World} {K : PySem.W.Frag} {mg : Str → Option Value} {base : Heap}
set_option maxHeartbeats 8000000 in
theorem ok_change_text {f : Addr} {fd : FuncData} (F : Fun K "change_text" "change_text" s_change_text f fd) (T : Txt K mg)  : FnOk P w K mg base CX0 1 f fd ["change"] (sp_change_text w K) := by
  refine F.ok sc_change_text (fun vs H Q E h => ?_) (fun cdv A outer s H vs Q E hr h => ?_)
  · obtain ⟨c, t, m, rfl, hc, m0, m1, q⟩ := h
    rfl
  · obtain ⟨c, t, m, rfl, hc, m0, m1, q⟩ := h
    refine ⟨_, (@pss_cons _ _ _ _ _ (@ps_set _ _ 1 _ _ _ _ sc_change_text.nd rfl (Or.inl rfl) (pe_ifExp (@pt_cmpR _ _ _ _ _ _ _ _ op_eq (@pe_ix _ _ _ _ _ _ _ ix_tup (pv 0) pe_int (fun _ _ => rfl)) pe_str (nomark _)) pe_str pe_str) (by rfl) (by first | exact Or.inl rfl | exact Or.inr rfl))
      (@pss_one _ _ _ (@ps_ret _ _ _ _ (@pe_op _ _ _ _ _ _ _ _ op_add_str (pv 1) (pe_callTy call_strI (by rfl) T.b_str PyProof.Rows.boot_str (@pa_cons _ _ _ _ _ (@pe_ix _ _ _ _ _ _ _ ix_tup (pv 0) pe_int (fun _ _ => rfl)) pa_nil (by rfl))))))), ?_⟩
    have l1 := (iS_at ⟨m0, m1⟩).1
    have l2 := lT_len t
    refine ⟨_, rfl, c, _, _, _, rfl, rfl, SqT.of hc, rfl, rfl, _, rfl, ?_⟩
    rw [kS_turn t]
    have fin : ∀ x : Str, x = lT t → ∃ i j, V.str x = V.str i ∧ V.str (iS m) = V.str j ∧ i.length + j.length ≤ sizeLine ∧ Q (.str (i ++ j)) H := fun x e => by
      subst e
      exact ⟨_, _, rfl, rfl, fit1000 (by omega), q⟩
    cases t with
    | true => exact ifp rfl ⟨_, rfl, _, rfl, c, _, _, _, rfl, rfl, SqT.of hc, rfl, m, rfl, ⟨m0, by omega⟩, fin _ rfl⟩
    | false => exact ifn rfl ⟨_, rfl, _, rfl, c, _, _, _, rfl, rfl, SqT.of hc, rfl, m, rfl, ⟨m0, by omega⟩, fin _ rfl⟩
set_option maxHeartbeats 8000000 in
theorem step_saying_text (d : Nat) {f : Addr} {fd : FuncData} (F : Fun K "saying_text" "saying_text" s_saying_text f fd) (T : Txt K mg) (C_change_text : Has P w K mg base 1 "change_text" ["change"] (sp_change_text w K)) (C_saying_text : HasX P w K mg base (d * 1 + 2) "saying_text" ["saying"] (sp_saying_text (d) w K)) : FnOk P w K mg base (CXE P w) (d * 1 + 3) f fd ["saying"] (sp_saying_text (d + 1) w K) := by
  refine F.okX sc_saying_text (fun vs H Q E h => ?_) (fun cdv A outer s H vs Q E hr h => ?_)
  · obtain ⟨g, v, s, n, fl, rfl, hg, n24, rs, gs, ns, q1, q2⟩ := h
    rfl
  · obtain ⟨g, v, s, n, fl, rfl, hg, n24, rs, gs, ns, q1, q2⟩ := h
    obtain ⟨c_ToneError, c_NoText, c_NoHalf, c_NoLeading, c_NoRow, c_Unknown, hm_ToneError, hm_NoText, hm_NoHalf, hm_NoLeading, hm_NoRow, hm_Unknown, ns_NoText, ex_NoText, xm_NoText, xo_NoText, k1_NoText, k2_NoText, k3_NoText⟩ := T.g_EXCS
    refine ⟨_, (@pss_cons _ _ _ _ _ (@ps_if _ _ _ _ _ _ _ _ (@pt_cmpR _ _ _ _ _ _ _ _ op_eq (@pe_ix _ _ _ _ _ _ _ ix_tup (pv 0) pe_int (fun _ _ => rfl)) pe_str (nomark _))
        (@pss_one _ _ _ (@ps_ret _ _ _ _ (@pe_callH _ _ _ _ _ _ _ _ _ _ C_change_text (hr.mono (by omega)) rfl (@pa_cons _ _ _ _ _ (@pe_ix _ _ _ _ _ _ _ ix_tup (pv 0) pe_int (fun _ _ => rfl)) pa_nil (by rfl)) (by decide) (by rfl) (by rfl))))
        pss_nil)
      (@pss_cons _ _ _ _ _ (@ps_if _ _ _ _ _ _ _ _ (@pt_cmpR _ _ _ _ _ _ _ _ op_eq (@pe_ix _ _ _ _ _ _ _ ix_tup (pv 0) pe_int (fun _ _ => rfl)) pe_str (nomark _))
        (@pss_one _ _ _ (@ps_ret _ _ _ _ (@pe_op _ _ _ _ _ _ _ _ op_add_str (@pe_op _ _ _ _ _ _ _ _ op_add_str pe_str (pe_bm PySem.F.plainAttrs_str PySem.F.slot_str_join PySem.F.type_str_join mt_join pe_str (@pa_cons _ _ _ _ _ (pe_compX (F := E) rfl ⟨rfl, rfl⟩ (fun _ _ z => z) (ys := []) (js := []) ⟨by rfl, of_decide_eq_true (by kernel_rfl), of_decide_eq_true (by kernel_rfl), by rfl, of_decide_eq_true (by kernel_rfl), of_decide_eq_true (by kernel_rfl), by rfl, of_decide_eq_true (by kernel_rfl)⟩ rfl (pi_tup (@pe_ix _ _ _ _ _ _ _ ix_tup (pv 0) pe_int (fun _ _ => rfl))) (fun _ _ _ _ _ => pts_nil) (fun _ _ _ _ _ _ gp => (pe_callP (E := E) C_saying_text (hr.mono (by omega)) rfl (@pa_cons _ _ _ _ _ (pv 0) pa_nil (by rfl)) gp))) pa_nil (by rfl)))) pe_str)))
        pss_nil)
      (@pss_cons _ _ _ _ _ (@ps_if _ _ _ _ _ _ _ _ (@pt_cmpR _ _ _ _ _ _ _ _ op_eq (@pe_ix _ _ _ _ _ _ _ ix_tup (@pe_ix _ _ _ _ _ _ _ ix_tup (pv 0) pe_int (fun _ _ => rfl)) pe_int (fun _ _ => rfl)) pe_str (nomark _))
        (@pss_one _ _ _ (ps_raise rfl rfl ⟨rfl, rfl⟩ (fun _ _ z => z) (by rfl) hm_NoText ex_NoText PySem.F.excBase_ValueError pe_str))
        pss_nil)
      (@pss_cons _ _ _ _ _ (@ps_if _ _ _ _ _ _ _ _ (@pt_cmpR _ _ _ _ _ _ _ _ op_eq (@pe_ix _ _ _ _ _ _ _ ix_tup (pv 0) pe_int (fun _ _ => rfl)) pe_str (nomark _))
        (@pss_one _ _ _ (@ps_ret _ _ _ _ (@pe_op _ _ _ _ _ _ _ _ op_add_str (@pe_op _ _ _ _ _ _ _ _ op_add_str (pe_callP (E := E) C_saying_text (hr.mono (by omega)) rfl (@pa_cons _ _ _ _ _ (@pe_ix _ _ _ _ _ _ _ ix_tup (pv 0) pe_int (fun _ _ => rfl)) pa_nil (by rfl)) (goes_fn rfl ⟨rfl, rfl⟩ (fun _ _ z => z))) pe_str) (pe_callTy call_str_int (by rfl) T.b_str PyProof.Rows.boot_str (@pa_cons _ _ _ _ _ (@pe_ix _ _ _ _ _ _ _ ix_tup (pv 0) pe_int (fun _ _ => rfl)) pa_nil (by rfl))))))
        pss_nil)
      (@pss_one _ _ _ (@ps_ret _ _ _ _ (@pe_op _ _ _ _ _ _ _ _ op_add_str pe_str (pe_callP (E := E) C_saying_text (hr.mono (by omega)) rfl (@pa_cons _ _ _ _ _ (@pe_ix _ _ _ _ _ _ _ ix_tup (pv 0) pe_int (fun _ _ => rfl)) pa_nil (by rfl)) (goes_fn rfl ⟨rfl, rfl⟩ (fun _ _ z => z)))))))))), ?_⟩
    cases g with
    | zero => exact nomatch (show Empty from s)
    | succ g =>
    have hg : g ≤ d := by omega
    match (show SyF (Sy g) from s), (show SayF H (SayR H g) v (show SyF (Sy g) from s) from rs), (show Good n fl (g + 1) (show SyF (Sy g) from s) from gs), (show nod (g + 1) (show SyF (Sy g) from s) ≤ 3280 from ns), (show Wr (g + 1) (show SyF (Sy g) from s) → ∀ H', Same H H' → Q (.str (txt (g + 1) (show SyF (Sy g) from s))) H' from q1), (show ¬ Wr (g + 1) (show SyF (Sy g) from s) → ∀ H', Same H H' → ∀ C, PySem.W.nsIn K mainGlobals "NoText" = some (some (.ref C)) → E (.ref C) none H' from q2) with
    | .ch t m, ⟨p, p2, e, h1, h2⟩, gs, ns, q1, q2 =>
      subst e
      exact ⟨_, rfl, p, _, _, _, rfl, rfl, SqT.of h1, rfl, rfl, _, rfl, ifp rfl ⟨_, rfl, p, _, _, _, rfl, rfl, SqT.of h1, rfl, p2, t, m, rfl, h2, gs.1, Int.lt_of_lt_of_le gs.2 n24, q1 True.intro H (Same.refl _)⟩⟩
    | .row l, ⟨p, p2, us, e, h1, h2, pr⟩, gs, ns, q1, q2 =>
      subst e
      refine ⟨_, rfl, p, _, _, _, rfl, rfl, SqT.of h1, rfl, rfl, _, rfl, ifn rfl ⟨_, rfl, p, _, _, _, rfl, rfl, SqT.of h1, rfl, rfl, _, rfl, ifp rfl ?_⟩⟩
      obtain ⟨bs, eb1, eb2, hR⟩ := prd_zip pr
      subst eb1 eb2
      have ns : 1 + ((bs.map (·.2)).map (nod g)).sum ≤ 3280 := ns
      have nu : ∀ u ∈ bs.map (·.2), nod g u ≤ 3280 := fun u hu => by
        have := mem_sum (f := nod g) hu
        omega
      refine ⟨rfl, _, rfl, p, _, _, _, rfl, rfl, SqT.of h1, rfl, p2, rfl, ⟨_, SqT.of h2⟩, comp_grow bs (·.1) (fun _ => true) id (fun _ v b => v = V.str (txt g b.2) ∧ Wr g b.2) (fun _ _ _ _ _ r => r) (it_tup bs (·.1) (SqT.of h2)) (fun b H' _ _ Q2 h => h H' (Same.refl _)) (fun b H' hb _ s2 Q2 h => ?_) (fit1000 (by have := gs.1; rw [List.length_map] at this; omega)) fun D ws H1 hD s1 hL pr2 => ?_⟩
      · have hm : b.2 ∈ bs.map (·.2) := List.mem_map_of_mem hb
        exact ⟨_, rfl, g, b.1, b.2, n, fl, rfl, hg, n24, SayR.mono s2.tk _ _ _ (hR b hb), gs.2 _ hm, nu _ hm, fun wr H4 s4 => h _ H4 s4 ⟨rfl, wr⟩, fun nw H4 s4 C hC => q2 (fun wr => nw (wr _ hm)) H4 (s2.trans s4) C hC⟩
      · rw [filter_all, List.map_id] at pr2
        have ew := prd_map (g := fun b : V × Sy g => V.str (txt g b.2)) (prd_imp (fun x y r => r.1) pr2)
        have wr : ∀ u ∈ bs.map (·.2), Wr g u := fun u hu => by
          obtain ⟨b, hb, rfl⟩ := List.mem_map.mp hu
          obtain ⟨j, hj⟩ := List.getElem?_of_mem hb
          obtain ⟨x, _, r⟩ := prd_get pr2 hj
          exact r.2
        have ew2 : ws = ((bs.map (·.2)).map (txt g)).map V.str := by
          rw [ew, List.map_map, List.map_map]
          rfl
        rw [ew2] at hL
        have tl := txt_len n24 (g + 1) (SyF.row (bs.map (·.2)) : SyF (Sy g)) gs
        have tl2 : (Str.ofString "(" ++ Str.join (Str.ofString " ") ((bs.map (·.2)).map (txt g)) ++ Str.ofString ")").length + 2 ≤ 50 * (1 + ((bs.map (·.2)).map (nod g)).sum) := tl
        rw [strLen_append] at tl2
        have tl3 := tl2
        rw [strLen_append] at tl3
        exact ⟨_, D, _, rfl, rfl, SqL.of hL, row_join n24 gs.1 gs.2 nu, _, _, rfl, rfl, fit_big (by omega), _, _, rfl, rfl, fit_big (by omega), q1 wr H1 s1⟩
    | .tm u k, ⟨p, w, e, h1, ru⟩, gs, ns, q1, q2 =>
      subst e
      refine ⟨_, rfl, p, _, _, _, rfl, rfl, SqT.of h1, rfl, rfl, _, rfl, ifn rfl ⟨_, rfl, p, _, _, _, rfl, rfl, SqT.of h1, rfl, rfl, _, rfl, ifn rfl ?_⟩⟩
      obtain ⟨pw, x, xs, ew, hw, ht⟩ := say_head ru
      subst ew
      have ns : 1 + nod g u ≤ 3280 := ns
      have tl := txt_len n24 g u gs.2.2.1
      have tk := iS_big gs.1 gs.2.1
      have o1 : (Str.ofString "*").length = 1 := by decide +kernel
      refine ⟨_, rfl, p, _, _, _, rfl, rfl, SqT.of h1, rfl, pw, _, _, V.str x, rfl, rfl, SqT.of hw, at_head _ _, rfl, _, rfl, if2 (fun e => ?_) (fun e => ?_)⟩
      · exact q2 (fun z => z.1 (ht.mp e)) H (Same.refl _) _ ns_NoText
      · have nt : ¬ isTm g u := fun z => by rw [ht.mpr z] at e; cases e
        refine ⟨_, rfl, p, _, _, _, rfl, rfl, SqT.of h1, rfl, rfl, _, rfl, ifp rfl ?_⟩
        refine ⟨_, rfl, p, _, _, _, rfl, rfl, SqT.of h1, rfl, g, .ref pw, u, n, fl, rfl, hg, n24, ru, gs.2.2.1, by omega, fun wr H2 s2 => ?_, fun nw H2 s2 C hC => q2 (fun z => nw z.2) H2 s2 C hC⟩
        refine ⟨_, _, rfl, rfl, fit_big (by omega), _, rfl, p, _, _, _, rfl, rfl, SqT.of (s2 _ _ h1), rfl, k, rfl, log_big gs.1 gs.2.1, _, _, rfl, rfl, ?_, q1 ⟨nt, wr⟩ H2 s2⟩
        rw [strLen_append]
        exact fit_big (by show (txt g u).length + (Str.ofString "*").length + (iS k).length ≤ 1000000; omega)
    | .un u, ⟨p, w, e, h1, ru⟩, gs, ns, q1, q2 =>
      subst e
      refine ⟨_, rfl, p, _, _, _, rfl, rfl, SqT.of h1, rfl, rfl, _, rfl, ifn rfl ⟨_, rfl, p, _, _, _, rfl, rfl, SqT.of h1, rfl, rfl, _, rfl, ifn rfl ?_⟩⟩
      obtain ⟨pw, x, xs, ew, hw, ht⟩ := say_head ru
      subst ew
      have ns : 1 + nod g u ≤ 3280 := ns
      have tl := txt_len n24 g u gs.1
      have o1 : (Str.ofString "~").length = 1 := by decide +kernel
      refine ⟨_, rfl, p, _, _, _, rfl, rfl, SqT.of h1, rfl, pw, _, _, V.str x, rfl, rfl, SqT.of hw, at_head _ _, rfl, _, rfl, if2 (fun e => ?_) (fun e => ?_)⟩
      · exact q2 (fun z => z.1 (ht.mp e)) H (Same.refl _) _ ns_NoText
      · have nt : ¬ isTm g u := fun z => by rw [ht.mpr z] at e; cases e
        refine ⟨_, rfl, p, _, _, _, rfl, rfl, SqT.of h1, rfl, rfl, _, rfl, ifn rfl ?_⟩
        exact ⟨_, rfl, p, _, _, _, rfl, rfl, SqT.of h1, rfl, g, .ref pw, u, n, fl, rfl, hg, n24, ru, gs.1, by omega, fun wr H2 s2 => ⟨_, _, rfl, rfl, fit_big (by omega), q1 ⟨nt, wr⟩ H2 s2⟩, fun nw H2 s2 C hC => q2 (fun z => nw z.2) H2 s2 C hC⟩
theorem ok_saying_text {f : Addr} {fd : FuncData} (F : Fun K "saying_text" "saying_text" s_saying_text f fd) (T : Txt K mg) (hm : mg "saying_text" = some (.ref f))  (C_change_text : Has P w K mg base 1 "change_text" ["change"] (sp_change_text w K)) : ∀ d : Nat, FnOk P w K mg base (CXE P w) (d * 1 + 2) f fd ["saying"] (sp_saying_text (d) w K) := by
  intro d
  induction d with
  | zero => exact ⟨fun vs H Q E h => ((fun {vs H Q E} (h : sp_saying_text 0 w K vs H Q E) => (by obtain ⟨g, _, s, _, _, _, hg, _⟩ := h; cases g with | zero => exact nomatch (show Empty from s) | succ g => omega : False)) h).elim, fun A outer s H args us vs Q E _ _ _ _ h => ((fun {vs H Q E} (h : sp_saying_text 0 w K vs H Q E) => (by obtain ⟨g, _, s, _, _, _, hg, _⟩ := h; cases g with | zero => exact nomatch (show Empty from s) | succ g => omega : False)) h).elim⟩
  | succ d ih =>
    have C_saying_text : HasX P w K mg base (d * 1 + 2) "saying_text" ["saying"] (sp_saying_text (d) w K) := ⟨_, _, ih, hm, F.kp, F.binds fun _ _ _ _ _ _ us hl => match us, hl with | [_], _ => rfl⟩
    exact (step_saying_text d F T C_change_text C_saying_text).mono (by omega)
set_option maxHeartbeats 8000000 in
theorem ok_l_cell_at {f : Addr} {fd : FuncData} (F : Fun K "_law_cell_at" "_law_cell_at" s_l_cell_at f fd) (T : Txt K mg)  : FnOk P w K mg base CX0 1 f fd ["_law_script", "_law_k"] (sp_l_cell_at w K) := by
  refine F.ok sc_l_cell_at (fun vs H Q E h => ?_) (fun cdv A outer s H vs Q E hr h => ?_)
  · obtain ⟨a, ns, k, rfl, hS, hl, q⟩ := h
    rfl
  · obtain ⟨a, ns, k, rfl, hS, hl, q⟩ := h
    refine ⟨_, (@pss_cons _ _ _ _ _ (@ps_if _ _ _ _ _ _ _ _ (@pt_cmpR _ _ _ _ _ _ _ _ op_eq (pe_callB call_len_seq (by rfl) T.b_len PySem.boot_len (@pa_cons _ _ _ _ _ (pv 0) pa_nil (by rfl))) pe_int (nomark _))
        (@pss_one _ _ _ (@ps_ret _ _ _ _ pe_int))
        pss_nil)
      (@pss_one _ _ _ (@ps_ret _ _ _ _ (@pe_ix _ _ _ _ _ _ _ ix_list (pv 0) (@pe_op _ _ _ _ _ _ _ _ op_mod (pv 1) (pe_callB call_len_seq (by rfl) T.b_len PySem.boot_len (@pa_cons _ _ _ _ _ (pv 0) pa_nil (by rfl)))) (fun _ _ => rfl))))), ?_⟩
    have hlen : (ns.map V.int).length = ns.length := List.length_map _
    refine ⟨_, rfl, a, _, rfl, .inl hS, rfl, _, rfl, ?_⟩
    refine if2 (fun _ => q 0) (fun e => ?_)
    have e := of_eqF e
    have hp : (0 : Int) < ((ns.map V.int).length : Int) := by omega
    obtain ⟨c, _, hc⟩ := atI_int (ns := ns) (i := k % ((ns.map V.int).length : Int)) (mod_lo _ hp) (by rw [← hlen]; exact mod_hi _ hp)
    exact ⟨_, rfl, _, rfl, _, rfl, a, _, rfl, .inl hS, _, _, rfl, rfl, hp, a, _, _, _, rfl, rfl, hS, hc, q c⟩
set_option maxHeartbeats 8000000 in
theorem ok_l_mixed {f : Addr} {fd : FuncData} (F : Fun K "_law_mixed" "_law_mixed" s_l_mixed f fd) (T : Txt K mg) (C_l_cell_at : Has P w K mg base 1 "_law_cell_at" ["_law_script", "_law_k"] (sp_l_cell_at w K)) : FnOk P w K mg base CX0 2 f fd ["_law_script", "_law_k", "_law_salt"] (sp_l_mixed w K) := by
  refine F.ok sc_l_mixed (fun vs H Q E h => ?_) (fun cdv A outer s H vs Q E hr h => ?_)
  · obtain ⟨a, ns, k, z, rfl, hS, hl, ⟨k0, k1⟩, ⟨z0, z1⟩, q⟩ := h
    rfl
  · obtain ⟨a, ns, k, z, rfl, hS, hl, ⟨k0, k1⟩, ⟨z0, z1⟩, q⟩ := h
    refine ⟨_, (@pss_cons _ _ _ _ _ (@ps_set _ _ 3 _ _ _ _ sc_l_mixed.nd rfl (Or.inl rfl) (@pe_callH _ _ _ _ _ _ _ _ _ _ C_l_cell_at (hr.mono (by decide)) rfl (@pa_cons _ _ _ _ _ (pv 0) (@pa_cons _ _ _ _ _ (pv 1) pa_nil (by rfl)) (by rfl)) (by decide) (by rfl) (by rfl)) (by rfl) (by first | exact Or.inl rfl | exact Or.inr rfl))
      (@pss_cons _ _ _ _ _ (@ps_set _ _ 4 _ _ _ _ sc_l_mixed.nd rfl (Or.inl rfl) (@pe_op _ _ _ _ _ _ _ _ op_fdiv (pv 1) (pe_callB (call_max2 rfl) (by rfl) T.b_max PyProof.Rows.boot_max (@pa_cons _ _ _ _ _ pe_int (@pa_cons _ _ _ _ _ (pe_callB call_len_seq (by rfl) T.b_len PySem.boot_len (@pa_cons _ _ _ _ _ (pv 0) pa_nil (by rfl))) pa_nil (by rfl)) (by rfl)))) (by rfl) (by first | exact Or.inl rfl | exact Or.inr rfl))
      (@pss_cons _ _ _ _ _ (@ps_set _ _ 5 _ _ _ _ sc_l_mixed.nd rfl (Or.inl rfl) (@pe_op _ _ _ _ _ _ _ _ op_add (@pe_op _ _ _ _ _ _ _ _ op_add (@pe_op _ _ _ _ _ _ _ _ op_add (@pe_op _ _ _ _ _ _ _ _ op_and (pv 3) pe_int) (@pe_op _ _ _ _ _ _ _ _ op_mul (@pe_op _ _ _ _ _ _ _ _ op_mul pe_int (pv 1)) (pv 1))) (@pe_op _ _ _ _ _ _ _ _ op_mul (@pe_op _ _ _ _ _ _ _ _ op_mul pe_int (pv 2)) (pv 2))) pe_int) (by rfl) (by first | exact Or.inl rfl | exact Or.inr rfl))
      (@pss_cons _ _ _ _ _ (@ps_set _ _ 5 _ _ _ _ sc_l_mixed.nd rfl (Or.inl rfl) (@pe_op _ _ _ _ _ _ _ _ op_mod (@pe_op _ _ _ _ _ _ _ _ op_mul (pv 5) pe_int) pe_int) (by rfl) (by first | exact Or.inl rfl | exact Or.inr rfl))
      (@pss_cons _ _ _ _ _ (@ps_set _ _ 5 _ _ _ _ sc_l_mixed.nd rfl (Or.inl rfl) (@pe_op _ _ _ _ _ _ _ _ op_mod (@pe_op _ _ _ _ _ _ _ _ op_mul (pv 5) (pv 5)) pe_int) (by rfl) (by first | exact Or.inl rfl | exact Or.inr rfl))
      (@pss_one _ _ _ (@ps_ret _ _ _ _ (@pe_op _ _ _ _ _ _ _ _ op_and (@pe_op _ _ _ _ _ _ _ _ op_add (@pe_op _ _ _ _ _ _ _ _ op_shr (pv 3) (@pe_op _ _ _ _ _ _ _ _ op_mul pe_int (@pe_op _ _ _ _ _ _ _ _ op_add (pv 2) (@pe_op _ _ _ _ _ _ _ _ op_mul pe_int (pv 4))))) (pv 5)) pe_int)))))))), ?_⟩
    have hlen : (ns.map V.int).length = ns.length := List.length_map _
    -- cell
    refine ⟨_, rfl, _, rfl, a, ns, k, rfl, hS, hl, fun c => ?_⟩
    -- lap
    have hm : CDiv k (if (((ns.map V.int).length : Nat) : Int) > 1 then (((ns.map V.int).length : Nat) : Int) else 1) := by
      show 0 < (if (((ns.map V.int).length : Nat) : Int) > 1 then (((ns.map V.int).length : Nat) : Int) else 1) ∧ (if (((ns.map V.int).length : Nat) : Int) > 1 then (((ns.map V.int).length : Nat) : Int) else 1) < 1073741824
      rw [hlen]
      split <;> omega
    refine ⟨_, rfl, _, rfl, a, _, rfl, .inl hS, _, _, rfl, _, _, rfl, rfl, hm, ?_⟩
    have lap0 : 0 ≤ k / (if (((ns.map V.int).length : Nat) : Int) > 1 then (((ns.map V.int).length : Nat) : Int) else 1) := Int.ediv_nonneg k0 (Int.le_of_lt hm.1)
    -- near
    refine ⟨_, rfl, _, _, rfl, rfl, _, rfl, _, _, rfl, rfl, .inl ⟨by decide, by decide⟩, _, rfl, _, _, rfl, rfl, .inr ⟨by omega, by omega⟩, _, _, rfl, rfl, _, rfl, _, _, rfl, rfl, .inl ⟨by decide, by decide⟩, _, rfl, _, _, rfl, rfl, .inr ⟨by omega, by omega⟩, _, _, rfl, rfl, _, _, rfl, rfl, ?_⟩
    refine ⟨_, rfl, _, _, rfl, rfl, .inr ⟨by decide, by decide⟩, _, _, rfl, rfl, (by show (0 : Int) < 2147483647; decide), ?_⟩
    refine ⟨_, rfl, _, rfl, _, _, rfl, rfl, .inl ⟨by omega, by omega⟩, _, _, rfl, rfl, (by show (0 : Int) < 2147483629; decide), ?_⟩
    -- the answer
    refine ⟨_, rfl, _, rfl, _, rfl, _, _, rfl, rfl, .inl ⟨by decide, by decide⟩, _, _, rfl, rfl, _, _, rfl, rfl, .inl ⟨by decide, by decide⟩, _, _, rfl, rfl, (by omega), _, rfl, _, _, rfl, rfl, _, _, rfl, rfl, ?_⟩
    exact q _ (by rw [mask31 (_ + _)]; exact mod_lo _ (by decide)) (by rw [mask31 (_ + _)]; exact mod_hi _ (by decide))
set_option maxHeartbeats 8000000 in
theorem ok_l_wheel {f : Addr} {fd : FuncData} (F : Fun K "_law_wheel" "_law_wheel" s_l_wheel f fd) (T : Txt K mg) (C_l_mixed : Has P w K mg base 2 "_law_mixed" ["_law_script", "_law_k", "_law_salt"] (sp_l_mixed w K)) : FnOk P w K mg base CX0 3 f fd ["_law_script", "_law_most"] (sp_l_wheel w K) := by
  refine F.ok sc_l_wheel (fun vs H Q E h => ?_) (fun cdv A outer s H vs Q E hr h => ?_)
  · obtain ⟨a, ns, rfl, hS, hl, q⟩ := h
    rfl
  · obtain ⟨a, ns, rfl, hS, hl, q⟩ := h
    refine ⟨_, (@pss_one _ _ _ (@ps_ret _ _ _ _ (@pe_op _ _ _ _ _ _ _ _ op_add pe_int (@pe_op _ _ _ _ _ _ _ _ op_mod (@pe_callH _ _ _ _ _ _ _ _ _ _ C_l_mixed (hr.mono (by decide)) rfl (@pa_cons _ _ _ _ _ (pv 0) (@pa_cons _ _ _ _ _ pe_int (@pa_cons _ _ _ _ _ pe_int pa_nil (by rfl)) (by rfl)) (by rfl)) (by decide) (by rfl) (by rfl)) (@pe_op _ _ _ _ _ _ _ _ op_sub (pv 1) pe_int))))), ?_⟩
    refine ⟨_, rfl, a, ns, 0, 1, rfl, hS, hl, ⟨by decide, by decide⟩, ⟨by decide, by decide⟩, fun c c0 c1 => ?_⟩
    refine ⟨_, rfl, _, _, rfl, rfl, _, _, rfl, rfl, (by show (0 : Int) < 24 - 2; decide), _, _, rfl, rfl, ?_⟩
    have h0 := mod_lo c (n := 24 - 2) (by decide)
    have h1 := mod_hi c (n := 24 - 2) (by decide)
    exact q _ (by omega) (by omega)
set_option maxHeartbeats 8000000 in
theorem ok_l_bare (d : Nat) {f : Addr} {fd : FuncData} (F : Fun K "_law_bare" "_law_bare" s_l_bare f fd) (T : Txt K mg) (C_l_saying : Has P w K mg base (d * 2 + 5) "_law_saying" ["_law_script", "_law_bag", "_law_n", "_law_deep"] (sp_l_saying (d) w K)) : FnOk P w K mg base CX0 (d * 2 + 6) f fd ["_law_script", "_law_bag", "_law_n", "_law_deep"] (sp_l_bare (d) w K) := by
  refine F.ok sc_l_bare (fun vs H Q E h => ?_) (fun cdv A outer s H vs Q E hr h => ?_)
  · obtain ⟨g, a, ns, b, i, li, fl, n, rfl, hS, hl, hb, ⟨i0, i1⟩, hn, n24, hd, hgd, q⟩ := h
    rfl
  · obtain ⟨g, a, ns, b, i, li, fl, n, rfl, hS, hl, hb, ⟨i0, i1⟩, hn, n24, hd, hgd, q⟩ := h
    refine ⟨_, (@pss_cons _ _ _ _ _ (@ps_set _ _ 4 _ _ _ _ sc_l_bare.nd rfl (Or.inl rfl) (@pe_callH _ _ _ _ _ _ _ _ _ _ C_l_saying (hr.mono (by omega)) rfl (@pa_cons _ _ _ _ _ (pv 0) (@pa_cons _ _ _ _ _ (pv 1) (@pa_cons _ _ _ _ _ (pv 2) (@pa_cons _ _ _ _ _ (pv 3) pa_nil (by rfl)) (by rfl)) (by rfl)) (by rfl)) (by decide) (by rfl) (by rfl)) (by rfl) (by first | exact Or.inl rfl | exact Or.inr rfl))
      (@pss_cons _ _ _ _ _ (@ps_if _ _ _ _ _ _ _ _ (PW.pt (pw_and (@pt_cmpR _ _ _ _ _ _ _ _ op_eq (@pe_ix _ _ _ _ _ _ _ ix_tup (pv 4) pe_int (fun _ _ => rfl)) pe_str (nomark _)) (pw_and1 (@pt_cmpR _ _ _ _ _ _ _ _ op_eq (@pe_ix _ _ _ _ _ _ _ ix_list (pv 1) pe_int (fun _ _ => rfl)) pe_int (nomark _)))))
        (@pss_one _ _ _ (@ps_ret _ _ _ _ (@pe_tup _ _ _ _ _ (@pa_cons _ _ _ _ _ pe_str (@pa_cons _ _ _ _ _ (@pe_tup _ _ _ _ _ (@pa_cons _ _ _ _ _ pe_str (@pa_cons _ _ _ _ _ (@pe_op _ _ _ _ _ _ _ _ op_mod (@pe_ix _ _ _ _ _ _ _ ix_tup (pv 4) pe_int (fun _ _ => rfl)) (pv 2)) pa_nil (by rfl)) (by rfl))) pa_nil (by rfl)) (by rfl)))))
        pss_nil)
      (@pss_one _ _ _ (@ps_ret _ _ _ _ (pv 4))))), ?_⟩
    cases g with
    | zero => exact absurd hd (by decide)
    | succ g =>
    refine ⟨_, rfl, _, rfl, _, rfl, _, rfl, g + 1, a, ns, b, i, li, fl, n, rfl, hS, hl, hb, ⟨i0, i1⟩, hn, n24, hd, hgd, fun v H1 i2 s s1 hb1 l1 u1 rs gs nn => ?_⟩
    have q := fun v H' i' s h1 h2 h3 h4 h5 h6 h7 h8 => q v H' i' s h1 h2 h3 h4 h5 h6 h7 h8
    match (show SyF (Sy g) from s), (show SayF H1 (SayR H1 g) v (show SyF (Sy g) from s) from rs), (show Good n fl (g + 1) (show SyF (Sy g) from s) from gs), (show ((nod (g + 1) (show SyF (Sy g) from s) : Nat) : Int) ≤ i2 - i from nn) with
    | .tm u k, ⟨p, w, e, h1, ru⟩, gs, nn =>
      subst e
      refine ⟨_, rfl, p, _, _, _, rfl, rfl, SqT.of h1, rfl, rfl, _, rfl, ifp rfl ?_⟩
      refine ⟨_, rfl, b, _, _, _, rfl, rfl, SqL.of hb1, rfl, rfl, _, rfl, if2 (fun e => ?_) (fun e => ?_)⟩
      · refine ⟨_, rfl, p, _, _, _, rfl, rfl, SqT.of h1, rfl, _, rfl, _, _, rfl, rfl, hn, two_fit, fun p2 p20 => ⟨two_fit, fun r r0 => ?_⟩⟩
        have sR := (Same.new (o := .tup (chV true (k % n))) p20).trans (Same.new (o := .tup [V.str "change", .ref p2]) r0)
        refine q (.ref r) _ i2 (SyF.ch true (k % n) : SyF (Sy g)) (s1.trans (SameX.of sR)) (sR _ _ hb1) l1 u1 ⟨r, p2, rfl, upd_same, Same.new r0 _ _ upd_same⟩ ⟨mod_lo _ hn, mod_hi _ hn⟩ ?_ (fun _ z => z)
        have nn : ((1 + nod g u : Nat) : Int) ≤ i2 - i := nn
        show ((1 : Nat) : Int) ≤ i2 - i
        omega
      · have e := of_eqF e
        exact ⟨_, rfl, q (.ref p) H1 i2 (SyF.tm u k : SyF (Sy g)) s1 hb1 l1 u1 ⟨p, w, rfl, h1, ru⟩ gs nn (fun z => absurd z e)⟩
    | .ch t m, ⟨p, p2, e, h1, h2⟩, gs, nn =>
      subst e
      refine ⟨_, rfl, p, _, _, _, rfl, rfl, SqT.of h1, rfl, rfl, _, rfl, ifn rfl (ifn rfl ?_)⟩
      exact ⟨_, rfl, q (.ref p) H1 i2 (SyF.ch t m : SyF (Sy g)) s1 hb1 l1 u1 ⟨p, p2, rfl, h1, h2⟩ gs nn (fun _ z => z)⟩
    | .row l, ⟨p, p2, us, e, h1, h2, pr⟩, gs, nn =>
      subst e
      refine ⟨_, rfl, p, _, _, _, rfl, rfl, SqT.of h1, rfl, rfl, _, rfl, ifn rfl (ifn rfl ?_)⟩
      exact ⟨_, rfl, q (.ref p) H1 i2 (SyF.row l : SyF (Sy g)) s1 hb1 l1 u1 ⟨p, p2, us, rfl, h1, h2, pr⟩ gs nn (fun _ z => z)⟩
    | .un u, ⟨p, w, e, h1, ru⟩, gs, nn =>
      subst e
      refine ⟨_, rfl, p, _, _, _, rfl, rfl, SqT.of h1, rfl, rfl, _, rfl, ifn rfl (ifn rfl ?_)⟩
      exact ⟨_, rfl, q (.ref p) H1 i2 (SyF.un u : SyF (Sy g)) s1 hb1 l1 u1 ⟨p, w, rfl, h1, ru⟩ gs nn (fun _ z => z)⟩
set_option maxHeartbeats 8000000 in
theorem step_l_saying (d : Nat) {f : Addr} {fd : FuncData} (F : Fun K "_law_saying" "_law_saying" s_l_saying f fd) (T : Txt K mg) (C_l_bare : Has P w K mg base (d * 2 + 6) "_law_bare" ["_law_script", "_law_bag", "_law_n", "_law_deep"] (sp_l_bare (d) w K)) (C_l_mixed : Has P w K mg base 2 "_law_mixed" ["_law_script", "_law_k", "_law_salt"] (sp_l_mixed w K)) (C_l_saying : Has P w K mg base (d * 2 + 5) "_law_saying" ["_law_script", "_law_bag", "_law_n", "_law_deep"] (sp_l_saying (d) w K)) : FnOk P w K mg base CX0 (d * 2 + 7) f fd ["_law_script", "_law_bag", "_law_n", "_law_deep"] (sp_l_saying (d + 1) w K) := by
  refine F.ok sc_l_saying (fun vs H Q E h => ?_) (fun cdv A outer s H vs Q E hr h => ?_)
  · obtain ⟨g, a, ns, b, i, li, fl, n, rfl, hS, hl, hb, ⟨i0, i1⟩, hn, n24, hd, hgd, q⟩ := h
    rfl
  · obtain ⟨g, a, ns, b, i, li, fl, n, rfl, hS, hl, hb, ⟨i0, i1⟩, hn, n24, hd, hgd, q⟩ := h
    refine ⟨_, (@pss_cons _ _ _ _ _ (@ps_set _ _ 4 _ _ _ _ sc_l_saying.nd rfl (Or.inl rfl) (@pe_callH _ _ _ _ _ _ _ _ _ _ C_l_mixed (hr.mono (by omega)) rfl (@pa_cons _ _ _ _ _ (pv 0) (@pa_cons _ _ _ _ _ (@pe_ix _ _ _ _ _ _ _ ix_list (pv 1) pe_int (fun _ _ => rfl)) (@pa_cons _ _ _ _ _ pe_int pa_nil (by rfl)) (by rfl)) (by rfl)) (by decide) (by rfl) (by rfl)) (by rfl) (by first | exact Or.inl rfl | exact Or.inr rfl))
      (@pss_cons _ _ _ _ _ (ps_asg (@pe_op _ _ _ _ _ _ _ _ op_add (@pe_ix _ _ _ _ _ _ _ ix_list (pv 1) pe_int (fun _ _ => rfl)) pe_int) (pg_sub (pv 1) pe_int set_list))
      (@pss_cons _ _ _ _ _ (@ps_set _ _ 5 _ _ _ _ sc_l_saying.nd rfl (Or.inl rfl) (@pe_op _ _ _ _ _ _ _ _ op_mod (pv 4) pe_int) (by rfl) (by first | exact Or.inl rfl | exact Or.inr rfl))
      (@pss_cons _ _ _ _ _ (@ps_if _ _ _ _ _ _ _ _ (PW.pt (pw_or (@pt_cmpR _ _ _ _ _ _ _ _ op_eq (pv 3) pe_int (nomark _)) (pw_or (@pt_cmpR _ _ _ _ _ _ _ _ op_lt (pv 5) pe_int (nomark _)) (pw_or1 (@pt_cmpR _ _ _ _ _ _ _ _ op_gt (@pe_ix _ _ _ _ _ _ _ ix_list (pv 1) pe_int (fun _ _ => rfl)) (@pe_ix _ _ _ _ _ _ _ ix_list (pv 1) pe_int (fun _ _ => rfl)) (nomark _))))))
        (@pss_one _ _ _ (@ps_ret _ _ _ _ (@pe_tup _ _ _ _ _ (@pa_cons _ _ _ _ _ pe_str (@pa_cons _ _ _ _ _ (@pe_tup _ _ _ _ _ (@pa_cons _ _ _ _ _ (@pe_ix _ _ _ _ _ _ _ ix_list (@pe_lst _ _ _ _ (@pa_cons _ _ _ _ _ pe_str (@pa_cons _ _ _ _ _ pe_str pa_nil (by rfl)) (by rfl))) (@pe_op _ _ _ _ _ _ _ _ op_mod (@pe_op _ _ _ _ _ _ _ _ op_fdiv (pv 4) pe_int) pe_int) (fun _ _ => rfl)) (@pa_cons _ _ _ _ _ (@pe_op _ _ _ _ _ _ _ _ op_mod (@pe_op _ _ _ _ _ _ _ _ op_fdiv (pv 4) pe_int) (pv 2)) pa_nil (by rfl)) (by rfl))) pa_nil (by rfl)) (by rfl)))))
        pss_nil)
      (@pss_cons _ _ _ _ _ (@ps_if _ _ _ _ _ _ _ _ (@pt_cmpR _ _ _ _ _ _ _ _ op_lt (pv 5) pe_int (nomark _))
        (@pss_cons _ _ _ _ _ (@ps_set _ _ 6 _ _ _ _ sc_l_saying.nd rfl (Or.inl rfl) (@pe_op _ _ _ _ _ _ _ _ op_mod (@pe_op _ _ _ _ _ _ _ _ op_fdiv (pv 4) pe_int) pe_int) (by rfl) (by first | exact Or.inl rfl | exact Or.inr rfl))
        (@pss_cons _ _ _ _ _ (@ps_if _ _ _ _ _ _ _ _ (@pt_cmpR _ _ _ _ _ _ _ _ op_eq (@pe_op _ _ _ _ _ _ _ _ op_mod (@pe_op _ _ _ _ _ _ _ _ op_fdiv (pv 4) pe_int) pe_int) pe_int (nomark _))
          (@pss_cons _ _ _ _ _ (@ps_set _ _ 6 _ _ _ _ sc_l_saying.nd rfl (Or.inl rfl) (@pe_op _ _ _ _ _ _ _ _ op_add (@pe_op _ _ _ _ _ _ _ _ op_mul (@pe_op _ _ _ _ _ _ _ _ op_mul (@pe_callH _ _ _ _ _ _ _ _ _ _ C_l_mixed (hr.mono (by omega)) rfl (@pa_cons _ _ _ _ _ (pv 0) (@pa_cons _ _ _ _ _ (@pe_ix _ _ _ _ _ _ _ ix_list (pv 1) pe_int (fun _ _ => rfl)) (@pa_cons _ _ _ _ _ pe_int pa_nil (by rfl)) (by rfl)) (by rfl)) (by decide) (by rfl) (by rfl)) (@pe_callH _ _ _ _ _ _ _ _ _ _ C_l_mixed (hr.mono (by omega)) rfl (@pa_cons _ _ _ _ _ (pv 0) (@pa_cons _ _ _ _ _ (@pe_ix _ _ _ _ _ _ _ ix_list (pv 1) pe_int (fun _ _ => rfl)) (@pa_cons _ _ _ _ _ pe_int pa_nil (by rfl)) (by rfl)) (by rfl)) (by decide) (by rfl) (by rfl))) (@pe_op _ _ _ _ _ _ _ _ op_pow pe_int pe_int)) (@pe_op _ _ _ _ _ _ _ _ op_fdiv (pv 4) pe_int)) (by rfl) (by first | exact Or.inl rfl | exact Or.inr rfl))
          (@pss_one _ _ _ (@ps_set _ _ 6 _ _ _ _ sc_l_saying.nd rfl (Or.inl rfl) (@pe_op _ _ _ _ _ _ _ _ op_mod (pv 6) (@pe_op _ _ _ _ _ _ _ _ op_add (@pe_op _ _ _ _ _ _ _ _ op_pow pe_int pe_int) pe_int)) (by rfl) (by first | exact Or.inl rfl | exact Or.inr rfl))))
          pss_nil)
        (@pss_one _ _ _ (@ps_ret _ _ _ _ (@pe_tup _ _ _ _ _ (@pa_cons _ _ _ _ _ pe_str (@pa_cons _ _ _ _ _ (@pe_callH _ _ _ _ _ _ _ _ _ _ C_l_bare (hr.mono (by omega)) rfl (@pa_cons _ _ _ _ _ (pv 0) (@pa_cons _ _ _ _ _ (pv 1) (@pa_cons _ _ _ _ _ (pv 2) (@pa_cons _ _ _ _ _ (@pe_op _ _ _ _ _ _ _ _ op_sub (pv 3) pe_int) pa_nil (by rfl)) (by rfl)) (by rfl)) (by rfl)) (by decide) (by rfl) (by rfl)) (@pa_cons _ _ _ _ _ (pv 6) pa_nil (by rfl)) (by rfl)) (by rfl)))))))
        pss_nil)
      (@pss_cons _ _ _ _ _ (@ps_if _ _ _ _ _ _ _ _ (@pt_cmpR _ _ _ _ _ _ _ _ op_lt (pv 5) pe_int (nomark _))
        (@pss_one _ _ _ (@ps_ret _ _ _ _ (@pe_tup _ _ _ _ _ (@pa_cons _ _ _ _ _ pe_str (@pa_cons _ _ _ _ _ (@pe_callH _ _ _ _ _ _ _ _ _ _ C_l_bare (hr.mono (by omega)) rfl (@pa_cons _ _ _ _ _ (pv 0) (@pa_cons _ _ _ _ _ (pv 1) (@pa_cons _ _ _ _ _ (pv 2) (@pa_cons _ _ _ _ _ (@pe_op _ _ _ _ _ _ _ _ op_sub (pv 3) pe_int) pa_nil (by rfl)) (by rfl)) (by rfl)) (by rfl)) (by decide) (by rfl) (by rfl)) pa_nil (by rfl)) (by rfl)))))
        pss_nil)
      (@pss_one _ _ _ (@ps_ret _ _ _ _ (@pe_tup _ _ _ _ _ (@pa_cons _ _ _ _ _ pe_str (@pa_cons _ _ _ _ _ (pe_callTy call_tuple_of (by rfl) T.b_tuple PyProof.Rows.boot_tuple (@pa_cons _ _ _ _ _ (pe_comp (ys := ["_law_script", "_law_bag", "_law_n", "_law_deep"]) (js := [0, 1, 2, 3]) ⟨by rfl, of_decide_eq_true (by kernel_rfl), of_decide_eq_true (by kernel_rfl), by rfl, of_decide_eq_true (by kernel_rfl), of_decide_eq_true (by kernel_rfl), by rfl, of_decide_eq_true (by kernel_rfl)⟩ rfl (pi_range1 rfl T.b_range (@pa_cons _ _ _ _ _ (@pe_op _ _ _ _ _ _ _ _ op_mod (@pe_op _ _ _ _ _ _ _ _ op_fdiv (pv 4) pe_int) pe_int) pa_nil (by rfl))) (fun _ _ _ _ _ => pts_nil) (fun _ _ _ _ _ => (@pe_callH _ _ _ _ _ _ _ _ _ _ C_l_saying (hr.mono (by omega)) rfl (@pa_cons _ _ _ _ _ (pv 1) (@pa_cons _ _ _ _ _ (pv 2) (@pa_cons _ _ _ _ _ (pv 3) (@pa_cons _ _ _ _ _ (@pe_op _ _ _ _ _ _ _ _ op_sub (pv 4) pe_int) pa_nil (by rfl)) (by rfl)) (by rfl)) (by rfl)) (by decide) (by rfl) (by rfl)))) pa_nil (by rfl))) pa_nil (by rfl)) (by rfl))))))))))), ?_⟩
    cases g with
    | zero => exact absurd hd (by decide)
    | succ g =>
    have hS0 := hS H (SameX.refl _ _)
    have ci := cntS_succ g
    refine ⟨_, rfl, _, rfl, b, _, _, _, rfl, rfl, SqL.of hb, rfl, a, ns, i, 40, rfl, hS0, hl, ⟨i0, by omega⟩, ⟨by decide, by decide⟩, fun c c0 c1 => ?_⟩
    refine ⟨_, rfl, b, _, _, _, rfl, rfl, SqL.of hb, rfl, _, _, rfl, rfl, _, rfl, b, _, _, 0, rfl, rfl, hb, rfl, ?_⟩
    simp only [List.set_cons_zero]
    have s1 : SameX b H (upd H b (.lst [V.int (i + 1), V.int li, V.int fl])) := SameX.upd b H _
    have hb1 : (upd H b (.lst [V.int (i + 1), V.int li, V.int fl])) b = some (.lst [V.int (i + 1), V.int li, V.int fl]) := upd_same
    generalize upd H b (.lst [V.int (i + 1), V.int li, V.int fl]) = H1 at s1 hb1 ⊢
    have hS1 : ∀ H', SameX b H1 H' → SqL K H' a (ns.map V.int) := fun H' z => hS H' (s1.trans z)
    refine ⟨_, rfl, _, _, rfl, rfl, (by show (0 : Int) < 8; decide), ?_⟩
    refine ⟨_, rfl, rfl, _, rfl, if2 (fun e => ifp rfl ?_) (fun e => ?_)⟩
    · refine ⟨two_fit, fun l l0 => ?_⟩
      obtain ⟨t, ht⟩ := two_at (c / 8)
      refine ⟨_, rfl, _, _, rfl, rfl, ⟨by decide, by decide⟩, _, _, rfl, rfl, (by show (0 : Int) < 2; decide), l, _, _, _, rfl, rfl, SqL.of upd_same, ht, _, rfl, _, _, rfl, rfl, ⟨by decide, by decide⟩, _, rfl, _, _, rfl, rfl, hn, two_fit, fun p p0 => ⟨two_fit, fun r r0 => ?_⟩⟩
      have sR := (Same.new (o := .lst [V.str "turn", V.str "mirror"]) l0).trans ((Same.new (o := .tup (chV t (c / 16 % n))) p0).trans (Same.new (o := .tup [V.str "change", .ref p]) r0))
      exact q (.ref r) _ (i + 1) (SyF.ch t (c / 16 % n) : SyF (Sy g)) (s1.trans (SameX.of sR)) (sR _ _ hb1) (by omega) (by omega) ⟨r, p, rfl, upd_same, Same.new r0 _ _ upd_same⟩ ⟨mod_lo _ hn, mod_hi _ hn⟩ (by show ((1 : Nat) : Int) ≤ i + 1 - i; omega)
    have e := of_eqF e
    have hd1 : 0 < g := by omega
    refine ⟨_, rfl, _, _, rfl, rfl, _, rfl, if2 (fun e2 => ifp rfl ?_) (fun e2 => ?_)⟩
    · refine ⟨two_fit, fun l l0 => ?_⟩
      obtain ⟨t, ht⟩ := two_at (c / 8)
      refine ⟨_, rfl, _, _, rfl, rfl, ⟨by decide, by decide⟩, _, _, rfl, rfl, (by show (0 : Int) < 2; decide), l, _, _, _, rfl, rfl, SqL.of upd_same, ht, _, rfl, _, _, rfl, rfl, ⟨by decide, by decide⟩, _, rfl, _, _, rfl, rfl, hn, two_fit, fun p p0 => ⟨two_fit, fun r r0 => ?_⟩⟩
      have sR := (Same.new (o := .lst [V.str "turn", V.str "mirror"]) l0).trans ((Same.new (o := .tup (chV t (c / 16 % n))) p0).trans (Same.new (o := .tup [V.str "change", .ref p]) r0))
      exact q (.ref r) _ (i + 1) (SyF.ch t (c / 16 % n) : SyF (Sy g)) (s1.trans (SameX.of sR)) (sR _ _ hb1) (by omega) (by omega) ⟨r, p, rfl, upd_same, Same.new r0 _ _ upd_same⟩ ⟨mod_lo _ hn, mod_hi _ hn⟩ (by show ((1 : Nat) : Int) ≤ i + 1 - i; omega)
    refine ⟨_, rfl, b, _, _, _, rfl, rfl, SqL.of hb1, rfl, _, rfl, b, _, _, _, rfl, rfl, SqL.of hb1, rfl, _, _, rfl, rfl, _, rfl, if2 (fun e3 => ?_) (fun e3 => ?_)⟩
    · refine ⟨two_fit, fun l l0 => ?_⟩
      obtain ⟨t, ht⟩ := two_at (c / 8)
      refine ⟨_, rfl, _, _, rfl, rfl, ⟨by decide, by decide⟩, _, _, rfl, rfl, (by show (0 : Int) < 2; decide), l, _, _, _, rfl, rfl, SqL.of upd_same, ht, _, rfl, _, _, rfl, rfl, ⟨by decide, by decide⟩, _, rfl, _, _, rfl, rfl, hn, two_fit, fun p p0 => ⟨two_fit, fun r r0 => ?_⟩⟩
      have sR := (Same.new (o := .lst [V.str "turn", V.str "mirror"]) l0).trans ((Same.new (o := .tup (chV t (c / 16 % n))) p0).trans (Same.new (o := .tup [V.str "change", .ref p]) r0))
      exact q (.ref r) _ (i + 1) (SyF.ch t (c / 16 % n) : SyF (Sy g)) (s1.trans (SameX.of sR)) (sR _ _ hb1) (by omega) (by omega) ⟨r, p, rfl, upd_same, Same.new r0 _ _ upd_same⟩ ⟨mod_lo _ hn, mod_hi _ hn⟩ (by show ((1 : Nat) : Int) ≤ i + 1 - i; omega)
    refine ⟨_, rfl, _, _, rfl, rfl, _, rfl, if2 (fun e4 => ?_) (fun e4 => ?_)⟩
    · have m0 := mod_lo (c / 8) (n := 7) (by decide)
      have m1 := mod_hi (c / 8) (n := 7) (by decide)
      refine ⟨_, rfl, _, _, rfl, rfl, ⟨by decide, by decide⟩, _, _, rfl, rfl, (by show (0 : Int) < 7; decide), ?_⟩
      refine ⟨_, rfl, _, _, rfl, rfl, ⟨by decide, by decide⟩, _, _, rfl, rfl, (by show (0 : Int) < 8; decide), rfl, _, rfl, if2 (fun e5 => ?_) (fun e5 => ?_)⟩
      · refine ⟨_, rfl, _, rfl, b, _, _, _, rfl, rfl, SqL.of hb1, rfl, a, ns, i + 1, 41, rfl, hS1 H1 (SameX.refl _ _), hl, ⟨by omega, by omega⟩, ⟨by decide, by decide⟩, fun x1 a0 a1 => ?_⟩
        refine ⟨_, rfl, _, rfl, b, _, _, _, rfl, rfl, SqL.of hb1, rfl, a, ns, i + 1, 42, rfl, hS1 H1 (SameX.refl _ _), hl, ⟨by omega, by omega⟩, ⟨by decide, by decide⟩, fun x2 b0 b1 => ?_⟩
        refine ⟨_, _, rfl, rfl, .inl ⟨by omega, by omega⟩, _, _, rfl, rfl, pow_ok (by decide) (by decide), _, _, rfl, rfl, .inr ⟨by decide, by decide⟩, _, rfl, _, _, rfl, rfl, ⟨by decide, by decide⟩, _, _, rfl, rfl, ?_⟩
        refine ⟨_, rfl, _, _, rfl, rfl, pow_ok (by decide) (by decide), _, _, rfl, rfl, _, _, rfl, rfl, (by show (0 : Int) < 10 ^ 30 + 1; decide), ?_⟩
        dsimp only
        have k0 := mod_lo (x1 * x2 * 10 ^ (11 : Int).toNat + c / 448) (n := 10 ^ (30 : Int).toNat + 1) (by decide)
        have k1 := mod_hi (x1 * x2 * 10 ^ (11 : Int).toNat + c / 448) (n := 10 ^ (30 : Int).toNat + 1) (by decide)
        generalize (x1 * x2 * 10 ^ (11 : Int).toNat + c / 448) % (10 ^ (30 : Int).toNat + 1) = many at k0 k1
        have k1 : many ≤ 10 ^ 30 := by
          have e30 : (10 : Int) ^ (30 : Int).toNat = 10 ^ 30 := rfl
          rw [e30] at k1
          omega
        refine ⟨_, rfl, _, rfl, _, rfl, _, rfl, _, _, rfl, rfl, g, a, ns, b, i + 1, li, fl, n, (by show [V.ref a, V.ref b, V.int n, V.int (((g + 1 : Nat) : Int) - 1)] = _; rw [show ((g + 1 : Nat) : Int) - 1 = (g : Int) by omega]), hS1, hl, hb1, ⟨by omega, by omega⟩, hn, n24, hd1, (by omega), fun w H2 i2 u s2 hb2 l2 u2 ru gu nu tu => ⟨_, rfl, three_fit, fun r r0 => ?_⟩⟩
        exact q (.ref r) _ i2 (SyF.tm u many : SyF (Sy g)) (s1.trans (s2.trans (SameX.of (Same.new r0)))) ((Same.new r0) _ _ hb2) (by omega) (by omega) ⟨r, w, rfl, upd_same, SayR.mono (Same.new r0).tk _ _ _ ru⟩ ⟨k0, k1, gu, tu⟩ (by show ((1 + nod g u : Nat) : Int) ≤ i2 - i; omega)
      · refine ⟨_, rfl, _, rfl, _, rfl, _, rfl, _, _, rfl, rfl, g, a, ns, b, i + 1, li, fl, n, (by show [V.ref a, V.ref b, V.int n, V.int (((g + 1 : Nat) : Int) - 1)] = _; rw [show ((g + 1 : Nat) : Int) - 1 = (g : Int) by omega]), hS1, hl, hb1, ⟨by omega, by omega⟩, hn, n24, hd1, (by omega), fun w H2 i2 u s2 hb2 l2 u2 ru gu nu tu => ⟨_, rfl, three_fit, fun r r0 => ?_⟩⟩
        exact q (.ref r) _ i2 (SyF.tm u (c / 8 % 7) : SyF (Sy g)) (s1.trans (s2.trans (SameX.of (Same.new r0)))) ((Same.new r0) _ _ hb2) (by omega) (by omega) ⟨r, w, rfl, upd_same, SayR.mono (Same.new r0).tk _ _ _ ru⟩ ⟨m0, (by omega), gu, tu⟩ (by show ((1 + nod g u : Nat) : Int) ≤ i2 - i; omega)
    refine ⟨_, rfl, _, _, rfl, rfl, _, rfl, if2 (fun e5 => ?_) (fun e5 => ?_)⟩
    · refine ⟨_, rfl, _, rfl, _, rfl, _, rfl, _, _, rfl, rfl, g, a, ns, b, i + 1, li, fl, n, (by show [V.ref a, V.ref b, V.int n, V.int (((g + 1 : Nat) : Int) - 1)] = _; rw [show ((g + 1 : Nat) : Int) - 1 = (g : Int) by omega]), hS1, hl, hb1, ⟨by omega, by omega⟩, hn, n24, hd1, (by omega), fun w H2 i2 u s2 hb2 l2 u2 ru gu nu tu => ⟨two_fit, fun r r0 => ?_⟩⟩
      exact q (.ref r) _ i2 (SyF.un u : SyF (Sy g)) (s1.trans (s2.trans (SameX.of (Same.new r0)))) ((Same.new r0) _ _ hb2) (by omega) (by omega) ⟨r, w, rfl, upd_same, SayR.mono (Same.new r0).tk _ _ _ ru⟩ ⟨gu, tu⟩ (by show ((1 + nod g u : Nat) : Int) ≤ i2 - i; omega)
    have m0 := mod_lo (c / 8) (n := 4) (by decide)
    have m1 := mod_hi (c / 8) (n := 4) (by decide)
    refine ⟨_, rfl, _, _, rfl, rfl, ⟨by decide, by decide⟩, _, _, rfl, rfl, (by show (0 : Int) < 4; decide), _, rfl, by omega, by omega, comp_walk (fun D j ys H' => ∃ (i' : Int) (ss : List (Sy g)), D ≠ b ∧ SameX b H1 H' ∧ H' D = some (.lst ys) ∧ H' b = some (.lst [.int i', .int li, .int fl]) ∧ (i + 1 ≤ i' ∧ i' ≤ i + 1 + ((j * cntS g : Nat) : Int)) ∧ Paired (SayR H' g) ys ss ∧ ys.length ≤ j ∧ (∀ u ∈ ss, Good n fl g u) ∧ (((ss.map (nod g)).sum : Nat) : Int) ≤ i' - (i + 1)) ?_ ?_ ?_ ?_ ?_⟩
    · intro D hD
      have ne : D ≠ b := fun z => by rw [z, hb1] at hD; cases hD
      exact ⟨i + 1, [], ne, SameX.of (Same.new hD), upd_same, Same.new hD _ _ hb1, ⟨by omega, by omega⟩, .nil, Nat.le_refl _, (fun u hu => by cases hu), by show ((0 : Nat) : Int) ≤ i + 1 - (i + 1); omega⟩
    · rintro D j ys H' ⟨i', ss, ne, sx, hDl, hb', _, pr, hlen, _⟩
      exact ⟨hDl, hlen⟩
    · rintro D j ys H' hj hD ⟨i', ss, ne, sx, hDl, hb', ⟨il, iu⟩, pr, hlen, hg, hno⟩ Q2 h
      have j4 : j < 4 := by omega
      have jm := step_le (m := cntS g) (show j < 4 from j4)
      have j3 : j + 1 ≤ 3 := by omega
      have js : (j + 1) * cntS g = j * cntS g + cntS g := Nat.succ_mul j _
      have jt : (j + 1) * cntS g ≤ 3 * cntS g := Nat.mul_le_mul_right _ j3
      refine ⟨_, rfl, _, rfl, _, rfl, _, rfl, _, _, rfl, rfl, g, a, ns, b, i', li, fl, n, (by show [V.ref a, V.ref b, V.int n, V.int (((g + 1 : Nat) : Int) - 1)] = _; rw [show ((g + 1 : Nat) : Int) - 1 = (g : Int) by omega]), (fun H'' z => hS1 H'' (sx.trans z)), hl, hb', ⟨by omega, by omega⟩, hn, n24, hd1, (by omega), fun v H4 i4 s4 sx4 hb4 l4 u4 rs gs nn => ?_⟩
      have hD4 := sx4 _ _ ne hDl
      have tk4 : TupKeep H4 (upd H4 D (.lst (ys ++ [v]))) := TupKeep.upd fun xs z => by rw [hD4] at z; cases z
      have tk := (SameX.tk hb' sx4).trans tk4
      refine h v H4 hD4 ⟨i4, ss ++ [s4], ne, fun x o hx hH => ?_, upd_same, ?_, ⟨by omega, by omega⟩, prd_append (prd_imp (fun x y r => SayR.mono tk _ _ _ r) pr) (.cons (SayR.mono tk4 _ _ _ rs) .nil), ?_, ?_, ?_⟩
      · have nD : x ≠ D := fun z => by rw [z, hD] at hH; cases hH
        rw [upd_ne nD]
        exact sx4 _ _ hx (sx _ _ hx hH)
      · rw [upd_ne (fun z => ne z.symm)]
        exact hb4
      · rw [List.length_append]
        show ys.length + 1 ≤ j + 1
        omega
      · intro u hu
        rcases List.mem_append.mp hu with hu | hu
        · exact hg u hu
        · rw [List.mem_singleton.mp hu]
          exact gs
      · rw [List.map_append, List.sum_append]
        show (((ss.map (nod g)).sum + (nod g s4 + 0) : Nat) : Int) ≤ i4 - (i + 1)
        omega
    · exact fit1000 (by omega)
    · rintro D ys H' hD ⟨i', ss, ne, sx, hDl, hb', ⟨il, iu⟩, pr, hlen, hg, hno⟩
      refine ⟨D, ys, rfl, .inl ⟨SqL.of hDl, fun r1 r10 => ⟨two_fit, fun r2 r20 => ?_⟩⟩⟩
      have jt := step_le (m := cntS g) (show (c / 8 % 4).toNat < 4 by omega)
      have sR := (Same.new (o := .tup ys) r10).trans (Same.new (o := .tup [V.str "row", .ref r1]) r20)
      exact q (.ref r2) _ i' (SyF.row ss : SyF (Sy g)) (s1.trans (sx.trans (SameX.of sR))) (sR _ _ hb') (by omega) (by omega) ⟨r2, r1, ys, rfl, upd_same, Same.new r20 _ _ upd_same, prd_imp (fun x y r => SayR.mono sR.tk _ _ _ r) pr⟩ ⟨by rw [← prd_len pr]; omega, hg⟩ (by show ((1 + (ss.map (nod g)).sum : Nat) : Int) ≤ i' - i; omega)
theorem ok_l_saying {f : Addr} {fd : FuncData} (F : Fun K "_law_saying" "_law_saying" s_l_saying f fd) (T : Txt K mg) (hm : mg "_law_saying" = some (.ref f)) {f_l_bare : Addr} {fd_l_bare : FuncData} (F_l_bare : Fun K "_law_bare" "_law_bare" s_l_bare f_l_bare fd_l_bare) (hm_l_bare : mg "_law_bare" = some (.ref f_l_bare)) (C_l_mixed : Has P w K mg base 2 "_law_mixed" ["_law_script", "_law_k", "_law_salt"] (sp_l_mixed w K)) : ∀ d : Nat, FnOk P w K mg base CX0 (d * 2 + 5) f fd ["_law_script", "_law_bag", "_law_n", "_law_deep"] (sp_l_saying (d) w K) := by
  intro d
  induction d with
  | zero => exact ⟨fun vs H Q E h => ((fun {vs H Q E} (h : sp_l_saying 0 w K vs H Q E) => (by obtain ⟨_, _, _, _, _, _, _, _, _, _, _, _, _, _, _, hd, hg, _⟩ := h; omega : False)) h).elim, fun A outer s H args us vs Q E _ _ _ _ h => ((fun {vs H Q E} (h : sp_l_saying 0 w K vs H Q E) => (by obtain ⟨_, _, _, _, _, _, _, _, _, _, _, _, _, _, _, hd, hg, _⟩ := h; omega : False)) h).elim⟩
  | succ d ih =>
    have C_l_saying : Has P w K mg base (d * 2 + 5) "_law_saying" ["_law_script", "_law_bag", "_law_n", "_law_deep"] (sp_l_saying (d) w K) := ⟨_, _, ih, hm, F.kp, F.binds fun _ _ _ _ _ _ us hl => match us, hl with | [_, _, _, _], _ => rfl⟩
    have C_l_bare : Has P w K mg base (d * 2 + 6) "_law_bare" ["_law_script", "_law_bag", "_law_n", "_law_deep"] (sp_l_bare (d) w K) := ⟨_, _, ok_l_bare d F_l_bare T C_l_saying, hm_l_bare, F_l_bare.kp, F_l_bare.binds fun _ _ _ _ _ _ us hl => match us, hl with | [_, _, _, _], _ => rfl⟩
    exact (step_l_saying d F T C_l_bare C_l_mixed C_l_saying).mono (by omega)
set_option maxHeartbeats 8000000 in
theorem step_l_saying_row (d : Nat) {f : Addr} {fd : FuncData} (F : Fun K "_law_saying_row" "_law_saying_row" s_l_saying_row f fd) (T : Txt K mg) (C_l_saying_row : Has P w K mg base (d * 1 + 2) "_law_saying_row" ["_law_saying_here"] (sp_l_saying_row (d) w K)) : FnOk P w K mg base CX0 (d * 1 + 3) f fd ["_law_saying_here"] (sp_l_saying_row (d + 1) w K) := by
  refine F.ok sc_l_saying_row (fun vs H Q E h => ?_) (fun cdv A outer s H vs Q E hr h => ?_)
  · obtain ⟨g, v, s, n, fl, rfl, hg, n24, rs, gs, ns, q⟩ := h
    rfl
  · obtain ⟨g, v, s, n, fl, rfl, hg, n24, rs, gs, ns, q⟩ := h
    refine ⟨_, (@pss_cons _ _ _ _ _ (@ps_if _ _ _ _ _ _ _ _ (@pt_cmpR _ _ _ _ _ _ _ _ op_eq (@pe_ix _ _ _ _ _ _ _ ix_tup (pv 0) pe_int (fun _ _ => rfl)) pe_str (nomark _))
        (@pss_one _ _ _ (@ps_ret _ _ _ _ (@pe_op _ _ _ _ _ _ _ _ op_add_str (@pe_op _ _ _ _ _ _ _ _ op_add_str pe_str (pe_bm PySem.F.plainAttrs_str PySem.F.slot_str_join PySem.F.type_str_join mt_join pe_str (@pa_cons _ _ _ _ _ (pe_comp (ys := []) (js := []) ⟨by rfl, of_decide_eq_true (by kernel_rfl), of_decide_eq_true (by kernel_rfl), by rfl, of_decide_eq_true (by kernel_rfl), of_decide_eq_true (by kernel_rfl), by rfl, of_decide_eq_true (by kernel_rfl)⟩ rfl (pi_tup (@pe_ix _ _ _ _ _ _ _ ix_tup (pv 0) pe_int (fun _ _ => rfl))) (fun _ _ _ _ _ => pts_nil) (fun _ _ _ _ _ => (@pe_callH _ _ _ _ _ _ _ _ _ _ C_l_saying_row (hr.mono (by omega)) rfl (@pa_cons _ _ _ _ _ (pv 0) pa_nil (by rfl)) (by decide) (by rfl) (by rfl)))) pa_nil (by rfl)))) pe_str)))
        pss_nil)
      (@pss_cons _ _ _ _ _ (@ps_if _ _ _ _ _ _ _ _ (@pt_cmpR _ _ _ _ _ _ _ _ op_eq (@pe_ix _ _ _ _ _ _ _ ix_tup (pv 0) pe_int (fun _ _ => rfl)) pe_str (nomark _))
        (@pss_one _ _ _ (@ps_ret _ _ _ _ (@pe_op _ _ _ _ _ _ _ _ op_add_str (@pe_op _ _ _ _ _ _ _ _ op_add_str (@pe_callH _ _ _ _ _ _ _ _ _ _ C_l_saying_row (hr.mono (by omega)) rfl (@pa_cons _ _ _ _ _ (@pe_ix _ _ _ _ _ _ _ ix_tup (pv 0) pe_int (fun _ _ => rfl)) pa_nil (by rfl)) (by decide) (by rfl) (by rfl)) pe_str) (pe_callTy call_str_int (by rfl) T.b_str PyProof.Rows.boot_str (@pa_cons _ _ _ _ _ (@pe_ix _ _ _ _ _ _ _ ix_tup (pv 0) pe_int (fun _ _ => rfl)) pa_nil (by rfl))))))
        pss_nil)
      (@pss_cons _ _ _ _ _ (@ps_if _ _ _ _ _ _ _ _ (@pt_cmpR _ _ _ _ _ _ _ _ op_eq (@pe_ix _ _ _ _ _ _ _ ix_tup (pv 0) pe_int (fun _ _ => rfl)) pe_str (nomark _))
        (@pss_one _ _ _ (@ps_ret _ _ _ _ (@pe_op _ _ _ _ _ _ _ _ op_add_str pe_str (@pe_callH _ _ _ _ _ _ _ _ _ _ C_l_saying_row (hr.mono (by omega)) rfl (@pa_cons _ _ _ _ _ (@pe_ix _ _ _ _ _ _ _ ix_tup (pv 0) pe_int (fun _ _ => rfl)) pa_nil (by rfl)) (by decide) (by rfl) (by rfl)))))
        pss_nil)
      (@pss_one _ _ _ (@ps_ret _ _ _ _ (@pe_op _ _ _ _ _ _ _ _ op_add_str (@pe_kget _ _ _ _ _ _ (@pe_dictS2 _ _ _ _ _ _ _ _ _ _ _ _ _ _) (@pe_ix _ _ _ _ _ _ _ ix_tup (@pe_ix _ _ _ _ _ _ _ ix_tup (pv 0) pe_int (fun _ _ => rfl)) pe_int (fun _ _ => rfl)) (fun _ _ => rfl)) (pe_callTy call_str_int (by rfl) T.b_str PyProof.Rows.boot_str (@pa_cons _ _ _ _ _ (@pe_ix _ _ _ _ _ _ _ ix_tup (@pe_ix _ _ _ _ _ _ _ ix_tup (pv 0) pe_int (fun _ _ => rfl)) pe_int (fun _ _ => rfl)) pa_nil (by rfl))))))))), ?_⟩
    cases g with
    | zero => exact nomatch (show Empty from s)
    | succ g =>
    have hg : g ≤ d := by omega
    match (show SyF (Sy g) from s), (show SayF H (SayR H g) v (show SyF (Sy g) from s) from rs), (show Good n fl (g + 1) (show SyF (Sy g) from s) from gs), (show nod (g + 1) (show SyF (Sy g) from s) ≤ 3280 from ns), (show ∀ H', Same H H' → Q (.str (txt (g + 1) (show SyF (Sy g) from s))) H' from q) with
    | .row l, ⟨p, p2, us, e, h1, h2, pr⟩, gs, ns, q =>
      subst e
      refine ⟨_, rfl, p, _, _, _, rfl, rfl, SqT.of h1, rfl, rfl, _, rfl, ifp rfl ?_⟩
      obtain ⟨bs, eb1, eb2, hR⟩ := prd_zip pr
      subst eb1 eb2
      have ns : 1 + ((bs.map (·.2)).map (nod g)).sum ≤ 3280 := ns
      have nu : ∀ u ∈ bs.map (·.2), nod g u ≤ 3280 := fun u hu => by
        have := mem_sum (f := nod g) hu
        omega
      refine ⟨rfl, _, rfl, p, _, _, _, rfl, rfl, SqT.of h1, rfl, p2, rfl, ⟨_, SqT.of h2⟩, comp_grow bs (·.1) (fun _ => true) id (fun _ v b => v = V.str (txt g b.2)) (fun _ _ _ _ _ r => r) (it_tup bs (·.1) (SqT.of h2)) (fun b H' _ _ Q2 h => h H' (Same.refl _)) (fun b H' hb _ s2 Q2 h => ?_) (fit1000 (by have := gs.1; rw [List.length_map] at this; omega)) fun D ws H1 hD s1 hL pr2 => ?_⟩
      · have hm : b.2 ∈ bs.map (·.2) := List.mem_map_of_mem hb
        exact ⟨_, rfl, g, b.1, b.2, n, fl, rfl, hg, n24, SayR.mono s2.tk _ _ _ (hR b hb), gs.2 _ hm, nu _ hm, fun H4 s4 => h _ H4 s4 rfl⟩
      · rw [filter_all, List.map_id] at pr2
        have ew := prd_map (g := fun b : V × Sy g => V.str (txt g b.2)) pr2
        have ew2 : ws = ((bs.map (·.2)).map (txt g)).map V.str := by
          rw [ew, List.map_map, List.map_map]
          rfl
        rw [ew2] at hL
        have tl := txt_len n24 (g + 1) (SyF.row (bs.map (·.2)) : SyF (Sy g)) gs
        have tl2 : (Str.ofString "(" ++ Str.join (Str.ofString " ") ((bs.map (·.2)).map (txt g)) ++ Str.ofString ")").length + 2 ≤ 50 * (1 + ((bs.map (·.2)).map (nod g)).sum) := tl
        rw [strLen_append] at tl2
        have tl3 := tl2
        rw [strLen_append] at tl3
        exact ⟨_, D, _, rfl, rfl, SqL.of hL, row_join n24 gs.1 gs.2 nu, _, _, rfl, rfl, fit_big (by omega), _, _, rfl, rfl, fit_big (by omega), q H1 s1⟩
    | .tm u k, ⟨p, w, e, h1, ru⟩, gs, ns, q =>
      subst e
      have ns : 1 + nod g u ≤ 3280 := ns
      have tl := txt_len n24 g u gs.2.2.1
      have tk := iS_big gs.1 gs.2.1
      have o1 : (Str.ofString "*").length = 1 := by decide +kernel
      refine ⟨_, rfl, p, _, _, _, rfl, rfl, SqT.of h1, rfl, rfl, _, rfl, ifn rfl ⟨_, rfl, p, _, _, _, rfl, rfl, SqT.of h1, rfl, rfl, _, rfl, ifp rfl ?_⟩⟩
      refine ⟨_, rfl, p, _, _, _, rfl, rfl, SqT.of h1, rfl, g, w, u, n, fl, rfl, hg, n24, ru, gs.2.2.1, by omega, fun H2 s2 => ?_⟩
      refine ⟨_, _, rfl, rfl, fit_big (by omega), _, rfl, p, _, _, _, rfl, rfl, SqT.of (s2 _ _ h1), rfl, k, rfl, log_big gs.1 gs.2.1, _, _, rfl, rfl, ?_, q H2 s2⟩
      rw [strLen_append]
      exact fit_big (by show (txt g u).length + (Str.ofString "*").length + (iS k).length ≤ 1000000; omega)
    | .un u, ⟨p, w, e, h1, ru⟩, gs, ns, q =>
      subst e
      have ns : 1 + nod g u ≤ 3280 := ns
      have tl := txt_len n24 g u gs.1
      have o1 : (Str.ofString "~").length = 1 := by decide +kernel
      refine ⟨_, rfl, p, _, _, _, rfl, rfl, SqT.of h1, rfl, rfl, _, rfl, ifn rfl ⟨_, rfl, p, _, _, _, rfl, rfl, SqT.of h1, rfl, rfl, _, rfl, ifn rfl ⟨_, rfl, p, _, _, _, rfl, rfl, SqT.of h1, rfl, rfl, _, rfl, ifp rfl ?_⟩⟩⟩
      exact ⟨_, rfl, p, _, _, _, rfl, rfl, SqT.of h1, rfl, g, w, u, n, fl, rfl, hg, n24, ru, gs.1, by omega, fun H2 s2 => ⟨_, _, rfl, rfl, fit_big (by omega), q H2 s2⟩⟩
    | .ch t m, ⟨p, p2, e, h1, h2⟩, gs, ns, q =>
      subst e
      refine ⟨_, rfl, p, _, _, _, rfl, rfl, SqT.of h1, rfl, rfl, _, rfl, ifn rfl ⟨_, rfl, p, _, _, _, rfl, rfl, SqT.of h1, rfl, rfl, _, rfl, ifn rfl ⟨_, rfl, p, _, _, _, rfl, rfl, SqT.of h1, rfl, rfl, _, rfl, ifn rfl ?_⟩⟩⟩
      have l1 := (iS_at ⟨gs.1, Int.lt_of_lt_of_le gs.2 n24⟩).1
      have l2 := lT_len t
      refine ⟨(by decide +kernel), fun d d0 => ?_⟩
      have sd := Same.new (o := .dK [(.inr (Str.ofString "turn"), .str (Str.ofString "t")), (.inr (Str.ofString "mirror"), .str (Str.ofString "m"))]) d0
      have g : atK [((.inr (Str.ofString "turn") : Key), V.str (Str.ofString "t")), (.inr (Str.ofString "mirror"), .str (Str.ofString "m"))] (.inr (kS t)) = some (.str (lT t)) := by
        unfold atK
        cases t with
        | true =>
          rw [List.find?_cons_of_pos (by exact decide_eq_true rfl)]
          rfl
        | false =>
          rw [List.find?_cons_of_neg (by exact ne_true_of_eq_false (decide_eq_false fun z => absurd (Sum.inr.inj z) (by decide +kernel))), List.find?_cons_of_pos (by exact decide_eq_true rfl)]
          rfl
      exact ⟨_, rfl, p, _, _, _, rfl, rfl, SqT.of (sd _ _ h1), rfl, p2, _, _, _, rfl, rfl, SqT.of (sd _ _ h2), rfl, d, .inr (kS t), _, _, rfl, rfl, upd_same, g, _, rfl, p, _, _, _, rfl, rfl, SqT.of (sd _ _ h1), rfl, p2, _, _, _, rfl, rfl, SqT.of (sd _ _ h2), rfl, m, rfl, log_big gs.1 (by have := gs.2; omega), _, _, rfl, rfl, fit1000 (by show (lT t).length + (iS m).length ≤ 1000; omega), q _ sd⟩
theorem ok_l_saying_row {f : Addr} {fd : FuncData} (F : Fun K "_law_saying_row" "_law_saying_row" s_l_saying_row f fd) (T : Txt K mg) (hm : mg "_law_saying_row" = some (.ref f))   : ∀ d : Nat, FnOk P w K mg base CX0 (d * 1 + 2) f fd ["_law_saying_here"] (sp_l_saying_row (d) w K) := by
  intro d
  induction d with
  | zero => exact ⟨fun vs H Q E h => ((fun {vs H Q E} (h : sp_l_saying_row 0 w K vs H Q E) => (by obtain ⟨g, _, s, _, _, _, hg, _⟩ := h; cases g with | zero => exact nomatch (show Empty from s) | succ g => omega : False)) h).elim, fun A outer s H args us vs Q E _ _ _ _ h => ((fun {vs H Q E} (h : sp_l_saying_row 0 w K vs H Q E) => (by obtain ⟨g, _, s, _, _, _, hg, _⟩ := h; cases g with | zero => exact nomatch (show Empty from s) | succ g => omega : False)) h).elim⟩
  | succ d ih =>
    have C_l_saying_row : Has P w K mg base (d * 1 + 2) "_law_saying_row" ["_law_saying_here"] (sp_l_saying_row (d) w K) := ⟨_, _, ih, hm, F.kp, F.binds fun _ _ _ _ _ _ us hl => match us, hl with | [_], _ => rfl⟩
    exact (step_l_saying_row d F T C_l_saying_row).mono (by omega)
set_option maxHeartbeats 8000000 in
theorem ok_l_written {f : Addr} {fd : FuncData} (F : Fun K "_law_written" "_law_written" s_l_written f fd) (T : Txt K mg) (C_l_saying_row : Has P w K mg base (8 * 1 + 2) "_law_saying_row" ["_law_saying_here"] (sp_l_saying_row (8) w K)) (C_saying_text : HasX P w K mg base (8 * 1 + 2) "saying_text" ["saying"] (sp_saying_text (8) w K)) : FnOk P w K mg base CX0 11 f fd ["_law_saying_here"] (sp_l_written w K) := by
  refine F.ok sc_l_written (fun vs H Q E h => ?_) (fun cdv A outer s H vs Q E hr h => ?_)
  · obtain ⟨g, v, s, n, rfl, hg, n24, rs, gs, ns, q⟩ := h
    rfl
  · obtain ⟨g, v, s, n, rfl, hg, n24, rs, gs, ns, q⟩ := h
    refine ⟨_, (@pss_cons _ _ _ _ _ (@ps_set _ _ 1 _ _ _ _ sc_l_written.nd rfl (Or.inl rfl) (pe_callX C_saying_text (hr.mono (by decide)) rfl (@pa_cons _ _ _ _ _ (pv 0) pa_nil (by rfl))) (by rfl) (by first | exact Or.inl rfl | exact Or.inr rfl))
      (@pss_one _ _ _ (@ps_ret _ _ _ _ (pe_and (pe_callB call_isinst (by rfl) T.b_isinstance PyProof.Rows.boot_isinstance (@pa_cons _ _ _ _ _ (pv 1) (@pa_cons _ _ _ _ _ (pe_bltn (v := V.ty "str") (by rfl) T.b_str PyProof.Rows.boot_str rfl) pa_nil (by rfl)) (by rfl))) (pe_one (@pe_cmpR _ _ _ _ _ _ _ _ op_eq (pv 1) (@pe_callH _ _ _ _ _ _ _ _ _ _ C_l_saying_row (hr.mono (by decide)) rfl (@pa_cons _ _ _ _ _ (pv 0) pa_nil (by rfl)) (by decide) (by rfl) (by rfl)) (nomark _))))))), ?_⟩
    refine ⟨_, rfl, g, v, s, n, 0, rfl, hg, n24, rs, gs, ns, fun wr H1 s1 => ?_, fun nw => absurd (good_wr g s gs) nw⟩
    refine ⟨_, rfl, _, "str", _, _, rfl, .str _, kit_same K _, true, rfl, ifp rfl ?_⟩
    refine ⟨_, rfl, _, rfl, g, v, s, n, 0, rfl, hg, n24, SayR.mono s1.tk _ _ _ rs, gs, ns, fun H2 s2 => ⟨rfl, ?_⟩⟩
    show Q (V.bl (decide (V.str (txt g s) = V.str (txt g s)))) H2
    rw [decide_eq_true rfl]
    exact q H2 (s1.trans s2)
set_option maxHeartbeats 8000000 in
theorem ok_l_refused {f : Addr} {fd : FuncData} (F : Fun K "_law_refused" "_law_refused" s_l_refused f fd) (T : Txt K mg) (C_saying_text : HasX P w K mg base (8 * 1 + 2) "saying_text" ["saying"] (sp_saying_text (8) w K)) : FnOk P w K mg base CX0 11 f fd ["_law_saying_here"] (sp_l_refused w K) := by
  refine F.ok sc_l_refused (fun vs H Q E h => ?_) (fun cdv A outer s H vs Q E hr h => ?_)
  · obtain ⟨g, v, s, n, fl, rfl, hg, n24, rs, gs, ns, nw, q⟩ := h
    rfl
  · obtain ⟨g, v, s, n, fl, rfl, hg, n24, rs, gs, ns, nw, q⟩ := h
    obtain ⟨c_ToneError, c_NoText, c_NoHalf, c_NoLeading, c_NoRow, c_Unknown, hm_ToneError, hm_NoText, hm_NoHalf, hm_NoLeading, hm_NoRow, hm_Unknown, ns_NoText, ex_NoText, xm_NoText, xo_NoText, k1_NoText, k2_NoText, k3_NoText⟩ := T.g_EXCS
    refine ⟨_, (@pss_cons _ _ _ _ _ (ps_tryCall (i := 1) rfl rfl rfl ⟨rfl, rfl⟩ C_saying_text (hr.mono (by decide)) rfl (fun _ => (@pa_cons _ _ _ _ _ (pv 0) pa_nil (by rfl))) (by rfl) hm_ToneError sc_l_refused.nd rfl rfl (fun a oe cls hcl =>
        (@pss_cons _ _ _ _ _ (@ps_set _ _ 2 _ _ _ _ sc_l_refused.nd rfl (Or.inl rfl) (pe_callB (call_isX hcl) (by rfl) T.b_isinstance PyProof.Rows.boot_isinstance (@pa_cons _ _ _ _ _ (pv 1) (@pa_cons _ _ _ _ _ (@pe_tup _ _ _ _ _ (@pa_cons _ _ _ _ _ (pe_glob (v := V.ref c_NoHalf) (by rfl) hm_NoHalf rfl) (@pa_cons _ _ _ _ _ (pe_glob (v := V.ref c_NoLeading) (by rfl) hm_NoLeading rfl) (@pa_cons _ _ _ _ _ (pe_glob (v := V.ref c_NoRow) (by rfl) hm_NoRow rfl) (@pa_cons _ _ _ _ _ (pe_glob (v := V.ref c_Unknown) (by rfl) hm_Unknown rfl) pa_nil (by rfl)) (by rfl)) (by rfl)) (by rfl))) pa_nil (by rfl)) (by rfl))) (by rfl) (by first | exact Or.inl rfl | exact Or.inr rfl))
        (@pss_one _ _ _ (@ps_ret _ _ _ _ (pe_and (pe_callB (call_isX hcl) (by rfl) T.b_isinstance PyProof.Rows.boot_isinstance (@pa_cons _ _ _ _ _ (pv 1) (@pa_cons _ _ _ _ _ (pe_glob (v := V.ref c_NoText) (by rfl) hm_NoText rfl) pa_nil (by rfl)) (by rfl))) (pe_and (pe_callB (call_isX hcl) (by rfl) T.b_isinstance PyProof.Rows.boot_isinstance (@pa_cons _ _ _ _ _ (pv 1) (@pa_cons _ _ _ _ _ (pe_bltn (v := V.ty "ValueError") (by rfl) T.b_ValueError PyProof.Rows.Boot.«ValueError» rfl) pa_nil (by rfl)) (by rfl))) (pe_one (pe_not (pv 2))))))))))
      (@pss_one _ _ _ (@ps_ret _ _ _ _ pe_bl))), ?_⟩
    refine ⟨_, rfl, g, v, s, n, fl, rfl, hg, n24, rs, gs, ns, fun wr => absurd wr nw, fun _ H1 s1 C hC => ?_⟩
    have eC : C = c_NoText := by
      rw [ns_NoText] at hC
      cases hC
      rfl
    subst eC
    refine ⟨xm_NoText, fun a ha => ?_⟩
    refine ⟨_, rfl, (by show 4 ≤ sizeLine; decide), fun r r0 => ⟨C, _, rfl, xo_NoText, rfl, .inr ⟨r, _, _, false, rfl, upd_same, rfl, k3_NoText, ?_⟩⟩⟩
    refine ⟨_, rfl, C, _, rfl, xo_NoText, rfl, .inl ⟨_, true, rfl, k1_NoText, true, rfl, ifp rfl ?_⟩⟩
    refine ⟨_, rfl, C, _, rfl, xo_NoText, rfl, .inl ⟨_, true, rfl, k2_NoText, true, rfl, ifp rfl ?_⟩⟩
    exact ⟨_, rfl, _, rfl, q _ (s1.trans (Same.new r0))⟩
set_option maxHeartbeats 8000000 in
theorem ok_l_bounds {f : Addr} {fd : FuncData} (F : Fun K "_law_bounds" "_law_bounds" s_l_bounds f fd) (T : Txt K mg) (C_l_mixed : Has P w K mg base 2 "_law_mixed" ["_law_script", "_law_k", "_law_salt"] (sp_l_mixed w K)) (C_l_saying : Has P w K mg base (8 * 2 + 5) "_law_saying" ["_law_script", "_law_bag", "_law_n", "_law_deep"] (sp_l_saying (8) w K)) (C_l_written : Has P w K mg base 11 "_law_written" ["_law_saying_here"] (sp_l_written w K)) : FnOk P w K mg base CX0 22 f fd ["_law_script", "_law_n"] (sp_l_bounds w K) := by
  refine F.ok sc_l_bounds (fun vs H Q E h => ?_) (fun cdv A outer s H vs Q E hr h => ?_)
  · obtain ⟨a, ns_, n, rfl, hS, hl, hn, n24, q⟩ := h
    rfl
  · obtain ⟨a, ns_, n, rfl, hS, hl, hn, n24, q⟩ := h
    refine ⟨_, (@pss_cons _ _ _ _ _ (@ps_set _ _ 2 _ _ _ _ sc_l_bounds.nd rfl (Or.inl rfl) (@pe_lst _ _ _ _ pa_nil) (by rfl) (by first | exact Or.inl rfl | exact Or.inr rfl))
      (@pss_cons _ _ _ _ _ (ps_for PassesOwn.never rfl (pi_range1 rfl T.b_range (@pa_cons _ _ _ _ _ pe_int pa_nil (by rfl))) (pg_name (i := 3) sc_l_bounds.nd rfl (Or.inl rfl))
        (@pss_cons _ _ _ _ _ (@ps_set _ _ 4 _ _ _ _ sc_l_bounds.nd rfl (Or.inl rfl) (@pe_callH _ _ _ _ _ _ _ _ _ _ C_l_mixed (hr.mono (by decide)) rfl (@pa_cons _ _ _ _ _ (pv 0) (@pa_cons _ _ _ _ _ (@pe_op _ _ _ _ _ _ _ _ op_add pe_int (pv 3)) (@pa_cons _ _ _ _ _ pe_int pa_nil (by rfl)) (by rfl)) (by rfl)) (by decide) (by rfl) (by rfl)) (by rfl) (by first | exact Or.inl rfl | exact Or.inr rfl))
        (@pss_one _ _ _ (ps_expr (pe_bm PySem.F.plainAttrs_list PySem.F.slot_list_append PySem.F.type_list_append mt_append (pv 2) (@pa_cons _ _ _ _ _ (@pe_tup _ _ _ _ _ (@pa_cons _ _ _ _ _ pe_str (@pa_cons _ _ _ _ _ (@pe_tup _ _ _ _ _ (@pa_cons _ _ _ _ _ (@pe_ix _ _ _ _ _ _ _ ix_list (@pe_lst _ _ _ _ (@pa_cons _ _ _ _ _ pe_str (@pa_cons _ _ _ _ _ pe_str pa_nil (by rfl)) (by rfl))) (@pe_op _ _ _ _ _ _ _ _ op_mod (pv 4) pe_int) (fun _ _ => rfl)) (@pa_cons _ _ _ _ _ (@pe_op _ _ _ _ _ _ _ _ op_mod (@pe_op _ _ _ _ _ _ _ _ op_fdiv (pv 4) pe_int) (pv 1)) pa_nil (by rfl)) (by rfl))) pa_nil (by rfl)) (by rfl))) pa_nil (by rfl)))))))
      (@pss_cons _ _ _ _ _ (@ps_set _ _ 5 _ _ _ _ sc_l_bounds.nd rfl (Or.inl rfl) (@pe_ix _ _ _ _ _ _ _ ix_list (pv 2) pe_int (fun _ _ => rfl)) (by rfl) (by first | exact Or.inl rfl | exact Or.inr rfl))
      (@pss_cons _ _ _ _ _ (ps_for PassesOwn.never rfl (pi_range1 rfl T.b_range (@pa_cons _ _ _ _ _ pe_int pa_nil (by rfl))) (pg_name (i := 3) sc_l_bounds.nd rfl (Or.inl rfl))
        (@pss_one _ _ _ (@ps_set _ _ 5 _ _ _ _ sc_l_bounds.nd rfl (Or.inl rfl) (@pe_tup _ _ _ _ _ (@pa_cons _ _ _ _ _ pe_str (@pa_cons _ _ _ _ _ (pv 5) pa_nil (by rfl)) (by rfl))) (by rfl) (by first | exact Or.inl rfl | exact Or.inr rfl))))
      (@pss_cons _ _ _ _ _ (@ps_if _ _ _ _ _ _ _ _ (PW.pt (pw_or (pt_not (pt_val (@pe_callH _ _ _ _ _ _ _ _ _ _ C_l_written (hr.mono (by decide)) rfl (@pa_cons _ _ _ _ _ (@pe_tup _ _ _ _ _ (@pa_cons _ _ _ _ _ pe_str (@pa_cons _ _ _ _ _ (pe_callTy call_tuple_of (by rfl) T.b_tuple PyProof.Rows.boot_tuple (@pa_cons _ _ _ _ _ (pv 2) pa_nil (by rfl))) pa_nil (by rfl)) (by rfl))) pa_nil (by rfl)) (by decide) (by rfl) (by rfl)))) (pw_or1 (pt_not (pt_val (@pe_callH _ _ _ _ _ _ _ _ _ _ C_l_written (hr.mono (by decide)) rfl (@pa_cons _ _ _ _ _ (pv 5) pa_nil (by rfl)) (by decide) (by rfl) (by rfl)))))))
        (@pss_one _ _ _ (@ps_ret _ _ _ _ pe_bl))
        pss_nil)
      (@pss_one _ _ _ (@ps_ret _ _ _ _ (@pe_callH _ _ _ _ _ _ _ _ _ _ C_l_written (hr.mono (by decide)) rfl (@pa_cons _ _ _ _ _ (@pe_callH _ _ _ _ _ _ _ _ _ _ C_l_saying (hr.mono (by decide)) rfl (@pa_cons _ _ _ _ _ (pv 0) (@pa_cons _ _ _ _ _ (@pe_lst _ _ _ _ (@pa_cons _ _ _ _ _ pe_int (@pa_cons _ _ _ _ _ pe_int (@pa_cons _ _ _ _ _ pe_int pa_nil (by rfl)) (by rfl)) (by rfl))) (@pa_cons _ _ _ _ _ (pv 1) (@pa_cons _ _ _ _ _ pe_int pa_nil (by rfl)) (by rfl)) (by rfl)) (by rfl)) (by decide) (by rfl) (by rfl)) pa_nil (by rfl)) (by decide) (by rfl) (by rfl))))))))), ?_⟩
    refine ⟨(by show 0 ≤ sizeLine; decide), fun L L0 => ?_⟩
    refine ⟨_, rfl, by decide, by decide, for_range (fun i σ G => ∃ (w1 w2 : Option V) (ws : List V) (cs : List (Bool × Int)), σ = [some (.ref a), some (.int n), some (.ref L), w1, w2, none] ∧ Same H G ∧ G L = some (.lst ws) ∧ Paired (ChR G) ws cs ∧ ws.length = i ∧ ∀ c ∈ cs, 0 ≤ c.2 ∧ c.2 < n) ⟨_, _, [], [], rfl, Same.new L0, upd_same, .nil, rfl, fun c hc => by cases hc⟩ ?_ ?_⟩
    · rintro i σ G hi ⟨w1, w2, ws, cs, rfl, sG, hL, pr, lw, hc⟩
      have hi : i < 59 := hi
      refine ⟨_, rfl, _, rfl, _, _, rfl, rfl, a, ns_, _, 98, rfl, sG.seq hS, hl, ⟨by omega, by omega⟩, ⟨by decide, by decide⟩, fun x x0 x1 => ?_⟩
      refine ⟨_, rfl, .inl ⟨rfl, _, SqL.of hL⟩, two_fit, fun l l0 => ?_⟩
      obtain ⟨t, ht⟩ := two_at x
      refine ⟨_, rfl, _, _, rfl, rfl, (by show (0 : Int) < 2; decide), l, _, _, _, rfl, rfl, SqL.of upd_same, ht, _, rfl, _, _, rfl, rfl, ⟨by decide, by decide⟩, _, rfl, _, _, rfl, rfl, hn, two_fit, fun p p0 => ⟨two_fit, fun r r0 => ?_⟩⟩
      have sR := (Same.new (o := .lst [V.str "turn", V.str "mirror"]) l0).trans ((Same.new (o := .tup (chV t (x / 2 % n))) p0).trans (Same.new (o := .tup [V.str "change", .ref p]) r0))
      have rc : ChR (upd (upd (upd G l (.lst [V.str "turn", V.str "mirror"])) p (.tup (chV t (x / 2 % n)))) r (.tup [V.str "change", .ref p])) (.ref r) (t, x / 2 % n) := ⟨r, p, rfl, upd_same, Same.new r0 _ _ upd_same⟩
      generalize upd (upd (upd G l (.lst [V.str "turn", V.str "mirror"])) p (.tup (chV t (x / 2 % n)))) r (.tup [V.str "change", .ref p]) = G2 at sR rc ⊢
      have hL2 := sR _ _ hL
      have tk : TupKeep G2 (upd G2 L (.lst (ws ++ [.ref r]))) := TupKeep.upd fun xs z => by rw [hL2] at z; cases z
      refine ⟨L, ws, _, rfl, rfl, hL2, Nat.lt_of_lt_of_le (show ws.length < 1000 by omega) (by decide), _, _, ws ++ [.ref r], cs ++ [(t, x / 2 % n)], rfl, (sG.trans sR).upd L0, upd_same, prd_append (prd_imp (fun x y r => ChR.mono (sR.tk.trans tk) r) pr) (.cons (rc.mono tk) .nil), ?_, ?_⟩
      · rw [List.length_append]
        show ws.length + 1 = i + 1
        omega
      · intro c hcm
        rcases List.mem_append.mp hcm with h | h
        · exact hc c h
        · rw [List.mem_singleton.mp h]
          exact ⟨mod_lo _ hn, mod_hi _ hn⟩
    · rintro σ G ⟨w1, w2, ws, cs, rfl, sG, hL, pr, lw, hc⟩
      have lw : ws.length = 59 := lw
      have lc : cs.length = 59 := by rw [← prd_len pr]; exact lw
      obtain ⟨w0, ws', ew⟩ : ∃ w ws', ws = w :: ws' := by
        cases ws with
        | nil => simp at lw
        | cons w ws' => exact ⟨w, ws', rfl⟩
      obtain ⟨c0, hc0, r0⟩ : ∃ c, (0 ≤ c.2 ∧ c.2 < n) ∧ ChR G w0 c := by
        subst ew
        match cs, pr, hc with
        | c :: _, .cons r _, hc => exact ⟨c, hc c List.mem_cons_self, r⟩
      refine ⟨_, rfl, L, _, _, w0, rfl, rfl, SqL.of hL, (by rw [ew]; exact at_zero), ?_⟩
      refine ⟨_, rfl, by decide, by decide, for_range (fun j σ G2 => ∃ (w1 : Option V) (v : V) (s : Sy (j + 1)), σ = [some (.ref a), some (.int n), some (.ref L), w1, w2, some v] ∧ Same G G2 ∧ SayR G2 (j + 1) v s ∧ Good n 0 (j + 1) s ∧ nod (j + 1) s = j + 1 ∧ ¬ isTm (j + 1) s) ⟨_, w0, (SyF.ch c0.1 c0.2 : SyF (Sy 0)), rfl, Same.refl _, r0, hc0, rfl, fun z => z⟩ ?_ ?_⟩
      · rintro j σ G2 hj ⟨w1, v, s, rfl, s2, rs, gs, ns, nt⟩
        refine ⟨_, rfl, two_fit, fun r r0 => ?_⟩
        refine ⟨_, .ref r, (SyF.un s : SyF (Sy (j + 1))), rfl, s2.trans (Same.new r0), ⟨r, v, rfl, upd_same, SayR.mono (Same.new r0).tk _ _ _ rs⟩, ⟨gs, fun _ => nt⟩, ?_, fun z => z⟩
        show 1 + nod (j + 1) s = j + 1 + 1
        omega
      · rintro σ G2 ⟨w1, v, s, rfl, s2, rs, gs, ns, nt⟩
        have ns : nod 8 s = 8 := ns
        refine ⟨_, rfl, L, ws, rfl, .inl ⟨SqL.of (s2 _ _ hL), fun r1 r10 => ⟨two_fit, fun r2 r20 => ?_⟩⟩⟩
        have sR := (Same.new (o := .tup ws) r10).trans (Same.new (o := .tup [V.str "row", .ref r1]) r20)
        have g1 : (upd (upd G2 r1 (.tup ws)) r2 (.tup [V.str "row", .ref r1])) r1 = some (.tup ws) := Same.new r20 _ _ upd_same
        have g2 : (upd (upd G2 r1 (.tup ws)) r2 (.tup [V.str "row", .ref r1])) r2 = some (.tup [V.str "row", .ref r1]) := upd_same
        generalize upd (upd G2 r1 (.tup ws)) r2 (.tup [V.str "row", .ref r1]) = G3 at sR g1 g2 ⊢
        have pr3 := prd_imp (fun x y r => ChR.mono (s2.trans sR).tk r) pr
        have nr : nod 2 (SyF.row (cs.map fun c => (SyF.ch c.1 c.2 : SyF (Sy 0))) : SyF (Sy 1)) ≤ 3280 := by
          have e : nod 2 (SyF.row (cs.map fun c => (SyF.ch c.1 c.2 : SyF (Sy 0))) : SyF (Sy 1)) = 1 + cs.length := congrArg (fun z => 1 + z) (nod_chs 0 cs)
          omega
        refine ⟨2, .ref r2, (SyF.row (cs.map fun c => (SyF.ch c.1 c.2 : SyF (Sy 0))) : SyF (Sy 1)), n, rfl, by decide, n24, ⟨r2, r1, ws, rfl, g2, g1, chs_say 0 pr3⟩, ⟨(by show (cs.map fun c => (SyF.ch c.1 c.2 : SyF (Sy 0))).length ≤ 60; rw [List.length_map]; omega), ?_⟩, nr, fun H3 s3 => ⟨true, rfl, ifn rfl ?_⟩⟩
        · intro u hu
          obtain ⟨c, hcm, rfl⟩ := List.mem_map.mp hu
          exact hc c hcm
        refine ⟨_, rfl, 8, v, s, n, rfl, by decide, n24, SayR.mono (sR.trans s3).tk _ _ _ rs, gs, by rw [ns]; decide, fun H4 s4 => ⟨true, rfl, ifn rfl ?_⟩⟩
        have S4 := sG.trans (s2.trans (sR.trans (s3.trans s4)))
        refine ⟨_, rfl, three_fit, fun b b0 => ?_⟩
        have c8 : cntS 8 = 3280 := by decide
        refine ⟨_, rfl, 8, a, ns_, b, 61, 80, 0, n, rfl, (fun H' z => (SameX.back b0 (Same.new b0) z).seq (S4.seq hS)), hl, upd_same, ⟨by decide, by rw [c8]; decide⟩, hn, n24, by decide, by decide, fun v5 H5 i5 s5 sx hb5 l5 u5 rs5 gs5 nn5 => ?_⟩
        exact ⟨8, v5, s5, n, rfl, by decide, n24, rs5, gs5, by rw [c8] at u5; omega, fun H6 s6 => q _ (S4.trans ((SameX.back b0 (Same.new b0) sx).trans s6))⟩
set_option maxHeartbeats 8000000 in
theorem ok_law {f : Addr} {fd : FuncData} (F : Fun K "law" "law" s_law f fd) (T : Txt K mg) (C_l_bounds : Has P w K mg base 22 "_law_bounds" ["_law_script", "_law_n"] (sp_l_bounds w K)) (C_l_mixed : Has P w K mg base 2 "_law_mixed" ["_law_script", "_law_k", "_law_salt"] (sp_l_mixed w K)) (C_l_refused : Has P w K mg base 11 "_law_refused" ["_law_saying_here"] (sp_l_refused w K)) (C_l_saying : Has P w K mg base (8 * 2 + 5) "_law_saying" ["_law_script", "_law_bag", "_law_n", "_law_deep"] (sp_l_saying (8) w K)) (C_l_wheel : Has P w K mg base 3 "_law_wheel" ["_law_script", "_law_most"] (sp_l_wheel w K)) (C_l_written : Has P w K mg base 11 "_law_written" ["_law_saying_here"] (sp_l_written w K)) : FnOk P w K mg base CX0 23 f fd ["_law_script"] (sp_law w K) := by
  refine F.ok sc_law (fun vs H Q E h => ?_) (fun cdv A outer s H vs Q E hr h => ?_)
  · obtain ⟨a, ns, rfl, hS, hl, q⟩ := h
    rfl
  · obtain ⟨a, ns, rfl, hS, hl, q⟩ := h
    refine ⟨_, (@pss_cons _ _ _ _ _ (@ps_set _ _ 1 _ _ _ _ sc_law.nd rfl (Or.inl rfl) (@pe_callH _ _ _ _ _ _ _ _ _ _ C_l_wheel (hr.mono (by decide)) rfl (@pa_cons _ _ _ _ _ (pv 0) (@pa_cons _ _ _ _ _ pe_int pa_nil (by rfl)) (by rfl)) (by decide) (by rfl) (by rfl)) (by rfl) (by first | exact Or.inl rfl | exact Or.inr rfl))
      (@pss_cons _ _ _ _ _ (@ps_if _ _ _ _ _ _ _ _ (PW.pt (pw_and (@pt_cmpR _ _ _ _ _ _ _ _ op_eq (@pe_op _ _ _ _ _ _ _ _ op_mod (@pe_callH _ _ _ _ _ _ _ _ _ _ C_l_mixed (hr.mono (by decide)) rfl (@pa_cons _ _ _ _ _ (pv 0) (@pa_cons _ _ _ _ _ pe_int (@pa_cons _ _ _ _ _ pe_int pa_nil (by rfl)) (by rfl)) (by rfl)) (by decide) (by rfl) (by rfl)) pe_int) pe_int (nomark _)) (pw_and1 (pt_not (pt_val (@pe_callH _ _ _ _ _ _ _ _ _ _ C_l_bounds (hr.mono (by decide)) rfl (@pa_cons _ _ _ _ _ (pv 0) (@pa_cons _ _ _ _ _ (pv 1) pa_nil (by rfl)) (by rfl)) (by decide) (by rfl) (by rfl)))))))
        (@pss_one _ _ _ (@ps_ret _ _ _ _ pe_bl))
        pss_nil)
      (@pss_cons _ _ _ _ _ (ps_for PassesOwn.never rfl (pi_range1 rfl T.b_range (@pa_cons _ _ _ _ _ pe_int pa_nil (by rfl))) (pg_name (i := 2) sc_law.nd rfl (Or.inl rfl))
        (@pss_cons _ _ _ _ _ (@ps_set _ _ 3 _ _ _ _ sc_law.nd rfl (Or.inl rfl) (@pe_callH _ _ _ _ _ _ _ _ _ _ C_l_saying (hr.mono (by decide)) rfl (@pa_cons _ _ _ _ _ (pv 0) (@pa_cons _ _ _ _ _ (@pe_lst _ _ _ _ (@pa_cons _ _ _ _ _ (@pe_op _ _ _ _ _ _ _ _ op_add pe_int (@pe_op _ _ _ _ _ _ _ _ op_mul pe_int (pv 2))) (@pa_cons _ _ _ _ _ (@pe_op _ _ _ _ _ _ _ _ op_add pe_int (@pe_op _ _ _ _ _ _ _ _ op_mul pe_int (pv 2))) (@pa_cons _ _ _ _ _ pe_int pa_nil (by rfl)) (by rfl)) (by rfl))) (@pa_cons _ _ _ _ _ (pv 1) (@pa_cons _ _ _ _ _ pe_int pa_nil (by rfl)) (by rfl)) (by rfl)) (by rfl)) (by decide) (by rfl) (by rfl)) (by rfl) (by first | exact Or.inl rfl | exact Or.inr rfl))
        (@pss_cons _ _ _ _ _ (@ps_if _ _ _ _ _ _ _ _ (pt_not (pt_val (@pe_callH _ _ _ _ _ _ _ _ _ _ C_l_written (hr.mono (by decide)) rfl (@pa_cons _ _ _ _ _ (pv 3) pa_nil (by rfl)) (by decide) (by rfl) (by rfl))))
          (@pss_one _ _ _ (@ps_ret _ _ _ _ pe_bl))
          pss_nil)
        (@pss_cons _ _ _ _ _ (@ps_set _ _ 4 _ _ _ _ sc_law.nd rfl (Or.inl rfl) (@pe_callH _ _ _ _ _ _ _ _ _ _ C_l_mixed (hr.mono (by decide)) rfl (@pa_cons _ _ _ _ _ (pv 0) (@pa_cons _ _ _ _ _ (@pe_op _ _ _ _ _ _ _ _ op_add (pv 2) pe_int) (@pa_cons _ _ _ _ _ pe_int pa_nil (by rfl)) (by rfl)) (by rfl)) (by decide) (by rfl) (by rfl)) (by rfl) (by first | exact Or.inl rfl | exact Or.inr rfl))
        (@pss_cons _ _ _ _ _ (@ps_set _ _ 5 _ _ _ _ sc_law.nd rfl (Or.inl rfl) (@pe_tup _ _ _ _ _ (@pa_cons _ _ _ _ _ pe_str (@pa_cons _ _ _ _ _ (@pe_tup _ _ _ _ _ (@pa_cons _ _ _ _ _ pe_str (@pa_cons _ _ _ _ _ (@pe_tup _ _ _ _ _ (@pa_cons _ _ _ _ _ pe_str (@pa_cons _ _ _ _ _ (@pe_op _ _ _ _ _ _ _ _ op_mod (@pe_op _ _ _ _ _ _ _ _ op_fdiv (pv 4) pe_int) (pv 1)) pa_nil (by rfl)) (by rfl))) pa_nil (by rfl)) (by rfl))) (@pa_cons _ _ _ _ _ (@pe_op _ _ _ _ _ _ _ _ op_mod (@pe_op _ _ _ _ _ _ _ _ op_fdiv (pv 4) pe_int) pe_int) pa_nil (by rfl)) (by rfl)) (by rfl))) (by rfl) (by first | exact Or.inl rfl | exact Or.inr rfl))
        (@pss_cons _ _ _ _ _ (@ps_if _ _ _ _ _ _ _ _ (PW.pt (pw_and (@pt_cmpR _ _ _ _ _ _ _ _ op_eq (@pe_op _ _ _ _ _ _ _ _ op_mod (pv 4) pe_int) pe_int (nomark _)) (pw_and1 (@pt_cmpR _ _ _ _ _ _ _ _ op_ne (@pe_ix _ _ _ _ _ _ _ ix_tup (pv 3) pe_int (fun _ _ => rfl)) pe_str (nomark _)))))
          (@pss_one _ _ _ (@ps_set _ _ 5 _ _ _ _ sc_law.nd rfl (Or.inl rfl) (@pe_tup _ _ _ _ _ (@pa_cons _ _ _ _ _ pe_str (@pa_cons _ _ _ _ _ (pv 3) (@pa_cons _ _ _ _ _ (@pe_op _ _ _ _ _ _ _ _ op_mod (@pe_op _ _ _ _ _ _ _ _ op_fdiv (pv 4) pe_int) pe_int) pa_nil (by rfl)) (by rfl)) (by rfl))) (by rfl) (by first | exact Or.inl rfl | exact Or.inr rfl)))
          pss_nil)
        (@pss_cons _ _ _ _ _ (@ps_set _ _ 6 _ _ _ _ sc_law.nd rfl (Or.inl rfl) (@pe_ix _ _ _ _ _ _ _ ix_list (@pe_lst _ _ _ _ (@pa_cons _ _ _ _ _ (@pe_tup _ _ _ _ _ (@pa_cons _ _ _ _ _ pe_str (@pa_cons _ _ _ _ _ (pv 5) pa_nil (by rfl)) (by rfl))) (@pa_cons _ _ _ _ _ (@pe_tup _ _ _ _ _ (@pa_cons _ _ _ _ _ pe_str (@pa_cons _ _ _ _ _ (pv 5) (@pa_cons _ _ _ _ _ (@pe_op _ _ _ _ _ _ _ _ op_mod (pv 4) pe_int) pa_nil (by rfl)) (by rfl)) (by rfl))) pa_nil (by rfl)) (by rfl))) (@pe_op _ _ _ _ _ _ _ _ op_mod (@pe_op _ _ _ _ _ _ _ _ op_fdiv (pv 4) pe_int) pe_int) (fun _ _ => rfl)) (by rfl) (by first | exact Or.inl rfl | exact Or.inr rfl))
        (@pss_cons _ _ _ _ _ (@ps_if _ _ _ _ _ _ _ _ (@pt_cmpR _ _ _ _ _ _ _ _ op_eq (@pe_op _ _ _ _ _ _ _ _ op_mod (@pe_op _ _ _ _ _ _ _ _ op_fdiv (pv 4) pe_int) pe_int) pe_int (nomark _))
          (@pss_one _ _ _ (@ps_set _ _ 6 _ _ _ _ sc_law.nd rfl (Or.inl rfl) (@pe_tup _ _ _ _ _ (@pa_cons _ _ _ _ _ pe_str (@pa_cons _ _ _ _ _ (@pe_tup _ _ _ _ _ (@pa_cons _ _ _ _ _ (@pe_tup _ _ _ _ _ (@pa_cons _ _ _ _ _ pe_str (@pa_cons _ _ _ _ _ (@pe_tup _ _ _ _ _ (@pa_cons _ _ _ _ _ pe_str (@pa_cons _ _ _ _ _ pe_int pa_nil (by rfl)) (by rfl))) pa_nil (by rfl)) (by rfl))) (@pa_cons _ _ _ _ _ (pv 6) pa_nil (by rfl)) (by rfl))) pa_nil (by rfl)) (by rfl))) (by rfl) (by first | exact Or.inl rfl | exact Or.inr rfl)))
          pss_nil)
        (@pss_one _ _ _ (@ps_if _ _ _ _ _ _ _ _ (pt_not (pt_val (@pe_callH _ _ _ _ _ _ _ _ _ _ C_l_refused (hr.mono (by decide)) rfl (@pa_cons _ _ _ _ _ (pv 6) pa_nil (by rfl)) (by decide) (by rfl) (by rfl))))
          (@pss_one _ _ _ (@ps_ret _ _ _ _ pe_bl))
          pss_nil))))))))))
      (@pss_one _ _ _ (@ps_ret _ _ _ _ pe_bl))))), ?_⟩
    refine ⟨_, rfl, a, ns, rfl, hS, hl, fun n n3 n24 => ?_⟩
    have hn : 0 < n := by omega
    refine ⟨_, rfl, a, ns, 0, 97, rfl, hS, hl, ⟨by decide, by decide⟩, ⟨by decide, by decide⟩, fun y y0 y1 => ?_⟩
    refine ⟨_, _, rfl, rfl, (by show (0 : Int) < 4; decide), rfl, _, rfl, if2 (fun e => ?_) (fun e => ifn rfl ?_)⟩
    · refine ⟨_, rfl, _, rfl, a, ns, n, rfl, hS, hl, hn, n24, fun H2 s2 => ⟨true, rfl, ifn rfl ?_⟩⟩
      have S1 := s2
      refine ⟨_, rfl, by decide, by decide, for_range (fun i σ G => ∃ (w1 w2 w3 w4 w5 : Option V), σ = [some (.ref a), some (.int n), w1, w2, w3, w4, w5] ∧ Same H G) ⟨_, _, _, _, _, rfl, S1⟩ ?_ ?_⟩
      · rintro i σ G hi ⟨w1, w2, w3, w4, w5, rfl, sG⟩
        have hi : i < 3 := hi
        refine ⟨_, rfl, _, rfl, _, _, rfl, rfl, .inl ⟨by decide, by decide⟩, _, _, rfl, rfl, _, rfl, _, _, rfl, rfl, .inl ⟨by decide, by decide⟩, _, _, rfl, rfl, three_fit, fun b b0 => ?_⟩
        have c5 : cntS 5 = 121 := by decide
        refine ⟨_, rfl, 5, a, ns, b, _, _, 0, n, rfl, (fun H' z => (SameX.back b0 (Same.new b0) z).seq (sG.seq hS)), hl, upd_same, ⟨by omega, by rw [c5]; omega⟩, hn, n24, by decide, by decide, fun v H2 i2 s sx hb2 il iu rs gs nn => ?_⟩
        have s2 := SameX.back b0 (Same.new b0) sx
        have n5 : nod 5 s ≤ 121 := by rw [c5] at iu; omega
        refine ⟨_, rfl, 5, v, s, n, rfl, by decide, n24, rs, gs, by omega, fun H3 s3 => ⟨true, rfl, ifn rfl ?_⟩⟩
        have S3 := sG.trans (s2.trans s3)
        have rs3 := SayR.mono s3.tk _ _ _ rs
        refine ⟨_, rfl, _, rfl, _, _, rfl, rfl, a, ns, _, 50, rfl, S3.seq hS, hl, ⟨by omega, by omega⟩, ⟨by decide, by decide⟩, fun x x0 x1 => ?_⟩
        refine ⟨_, rfl, _, _, rfl, rfl, ⟨by decide, by decide⟩, _, rfl, _, _, rfl, rfl, hn, two_fit, fun p1 p10 => ⟨two_fit, fun p2 p20 => ⟨_, rfl, _, _, rfl, rfl, ⟨by decide, by decide⟩, _, _, rfl, rfl, (by show (0 : Int) < 5; decide), three_fit, fun p3 p30 => ?_⟩⟩⟩
        have k0 := mod_lo (x / 96) (n := 5) (by decide)
        have k1 := mod_hi (x / 96) (n := 5) (by decide)
        have sP := (Same.new (o := .tup [V.str "turn", V.int (x / 4 % n)]) p10).trans ((Same.new (o := .tup [V.str "change", .ref p1]) p20).trans (Same.new (o := .tup [V.str "times", .ref p2, .int (x / 96 % 5)]) p30))
        have f1 := ((Same.new (o := .tup [V.str "change", .ref p1]) p20).trans (Same.new (o := .tup [V.str "times", .ref p2, .int (x / 96 % 5)]) p30)) _ _ (upd_same (H := H3) (a := p1) (o := .tup [V.str "turn", V.int (x / 4 % n)]))
        have f2 := (Same.new (o := .tup [V.str "times", .ref p2, .int (x / 96 % 5)]) p30) _ _ (upd_same (H := upd H3 p1 (.tup [V.str "turn", V.int (x / 4 % n)])) (a := p2) (o := .tup [V.str "change", .ref p1]))
        have f3 : (upd (upd (upd H3 p1 (.tup [V.str "turn", V.int (x / 4 % n)])) p2 (.tup [V.str "change", .ref p1])) p3 (.tup [V.str "times", .ref p2, .int (x / 96 % 5)])) p3 = some (.tup [V.str "times", .ref p2, .int (x / 96 % 5)]) := upd_same
        generalize upd (upd (upd H3 p1 (.tup [V.str "turn", V.int (x / 4 % n)])) p2 (.tup [V.str "change", .ref p1])) p3 (.tup [V.str "times", .ref p2, .int (x / 96 % 5)]) = G5 at sP f1 f2 f3 ⊢
        have S5 := S3.trans sP
        have rs5 := SayR.mono sP.tk _ _ _ rs3
        have rm0 : SayR G5 6 (.ref p3) (SyF.tm (SyF.ch true (x / 4 % n) : SyF (Sy 4)) (x / 96 % 5) : SyF (Sy 5)) := ⟨p3, .ref p2, rfl, f3, p2, p1, rfl, f2, f1⟩
        have gm0 : Good n 1 6 (SyF.tm (SyF.ch true (x / 4 % n) : SyF (Sy 4)) (x / 96 % 5) : SyF (Sy 5)) := ⟨k0, by omega, ⟨mod_lo _ hn, mod_hi _ hn⟩, fun z => absurd z (by decide)⟩
        obtain ⟨pv, hx, xs, ev, hv, ht⟩ := say_head rs5
        subst ev
        refine ⟨_, rfl, _, _, rfl, rfl, (by show (0 : Int) < 2; decide), rfl, _, rfl, if2 (fun e => ?_) (fun e => ifn rfl ?_)⟩
        · refine ⟨_, rfl, pv, _, _, V.str hx, rfl, rfl, SqT.of hv, at_head _ _, rfl, _, rfl, if2 (fun e2 => ?_) (fun e2 => ?_)⟩
          · refine ⟨_, rfl, _, rfl, _, _, rfl, rfl, ⟨by decide, by decide⟩, _, _, rfl, rfl, (by show (0 : Int) < 5; decide), three_fit, fun p4 p40 => ?_⟩
            have s6 := Same.new (o := .tup [V.str "times", .ref pv, .int (x / 96 % 5)]) p40
            have f4 : (upd G5 p4 (.tup [V.str "times", .ref pv, .int (x / 96 % 5)])) p4 = some (.tup [V.str "times", .ref pv, .int (x / 96 % 5)]) := upd_same
            generalize upd G5 p4 (.tup [V.str "times", .ref pv, .int (x / 96 % 5)]) = G6 at s6 f4 ⊢
            have S6 := S5.trans s6
            obtain ⟨vm, evm⟩ : ∃ vm, vm = V.ref p4 := ⟨_, rfl⟩
            obtain ⟨sm, rm, gm, nm, tm⟩ : ∃ sm : Sy 6, SayR G6 6 vm sm ∧ Good n 1 6 sm ∧ nod 6 sm ≤ 200 ∧ isTm 6 sm := ⟨(SyF.tm s (x / 96 % 5) : SyF (Sy 5)), ⟨p4, .ref pv, evm, f4, SayR.mono s6.tk _ _ _ rs5⟩, ⟨k0, by omega, good_mono 5 s gs, fun z => absurd z (by decide)⟩, (by show 1 + nod 5 s ≤ 200; omega), True.intro⟩
            rw [← evm]
            refine ⟨_, rfl, two_fit, fun r1 r10 => ⟨_, rfl, _, rfl, _, _, rfl, rfl, (by show (0 : Int) < 4; decide), three_fit, fun r2 r20 => ⟨two_fit, fun l l0 => ?_⟩⟩⟩
            have x4a := mod_lo x (n := 4) (by decide)
            have x4b := mod_hi x (n := 4) (by decide)
            obtain ⟨G7, eG⟩ : ∃ G7, G7 = upd (upd (upd G6 r1 (.tup [V.str "undo", vm])) r2 (.tup [V.str "times", vm, .int (x % 4)])) l (.lst [.ref r1, .ref r2]) := ⟨_, rfl⟩
            have sT : Same G6 G7 := eG ▸ (Same.new r10).trans ((Same.new r20).trans (Same.new l0))
            have h1 : G7 r1 = some (.tup [V.str "undo", vm]) := eG ▸ ((Same.new r20).trans (Same.new l0)) _ _ upd_same
            have h2 : G7 r2 = some (.tup [V.str "times", vm, .int (x % 4)]) := eG ▸ (Same.new l0) _ _ upd_same
            have h3 : G7 l = some (.lst [.ref r1, .ref r2]) := eG ▸ upd_same
            have S7 := S6.trans sT
            have rm7 := SayR.mono sT.tk _ _ _ rm
            rcases (by omega : x / 2 % 2 = 0 ∨ x / 2 % 2 = 1) with e9 | e9
            · rw [← eG]
              refine ⟨_, rfl, _, _, rfl, rfl, ⟨by decide, by decide⟩, _, _, rfl, rfl, (by show (0 : Int) < 2; decide), l, _, _, (V.ref r1), rfl, rfl, SqL.of h3, (by rw [e9]; rfl), ?_⟩
              have rb : SayR G7 7 (V.ref r1) (SyF.un sm : SyF (Sy 6)) := ⟨r1, vm, rfl, h1, rm7⟩
              have gb : Good n 1 7 (SyF.un sm : SyF (Sy 6)) := ⟨gm, fun z => absurd z (by decide)⟩
              have nb : nod 7 (SyF.un sm : SyF (Sy 6)) ≤ 300 := (by show 1 + nod 6 sm ≤ 300; omega)
              have wb : ¬ Wr 7 (SyF.un sm : SyF (Sy 6)) := fun z => z.1 tm
              refine ⟨_, rfl, _, _, rfl, rfl, ⟨by decide, by decide⟩, _, _, rfl, rfl, (by show (0 : Int) < 2; decide), rfl, _, rfl, if2 (fun e => ?_) (fun e => ?_)⟩
              · refine ⟨two_fit, fun q1 q10 => ⟨two_fit, fun q2 q20 => ⟨_, rfl, two_fit, fun q3 q30 => ⟨two_fit, fun q4 q40 => ?_⟩⟩⟩⟩
                have sQ := (Same.new (o := .tup (chV false 0)) q10).trans ((Same.new (o := .tup [V.str "change", .ref q1]) q20).trans ((Same.new (o := .tup [.ref q2, (V.ref r1)]) q30).trans (Same.new (o := .tup [V.str "row", .ref q3]) q40)))
                have g2 := ((Same.new (o := .tup [.ref q2, (V.ref r1)]) q30).trans (Same.new (o := .tup [V.str "row", .ref q3]) q40)) _ _ (upd_same (H := upd G7 q1 (.tup (chV false 0))) (a := q2) (o := .tup [V.str "change", .ref q1]))
                have g1 := ((Same.new (o := .tup [V.str "change", .ref q1]) q20).trans ((Same.new (o := .tup [.ref q2, (V.ref r1)]) q30).trans (Same.new (o := .tup [V.str "row", .ref q3]) q40))) _ _ (upd_same (H := G7) (a := q1) (o := .tup (chV false 0)))
                refine ⟨_, rfl, 8, .ref q4, (SyF.row [(SyF.ch false 0 : SyF (Sy 6)), (SyF.un sm : SyF (Sy 6))] : SyF (Sy 7)), n, 1, rfl, by decide, n24, ⟨q4, q3, _, rfl, upd_same, Same.new q40 _ _ upd_same, .cons ⟨q2, q1, rfl, g2, g1⟩ (.cons (SayR.mono sQ.tk 7 _ _ rb) .nil)⟩, ⟨by show 2 ≤ 60; decide, fun u hu => ?_⟩, ?_, (fun z => wb (z _ (List.mem_cons_of_mem _ List.mem_cons_self))), fun H9 s9 => ⟨true, rfl, ifn rfl ⟨_, _, _, _, _, rfl, S7.trans (sQ.trans s9)⟩⟩⟩
                · rcases List.mem_cons.mp hu with rfl | hu
                  · exact ⟨Int.le_refl 0, hn⟩
                  · rw [List.mem_singleton.mp hu]
                    exact gb
                · show 1 + (1 + (nod 7 (SyF.un sm : SyF (Sy 6)) + 0)) ≤ 3280
                  omega
              · exact ⟨_, rfl, 7, (V.ref r1), (SyF.un sm : SyF (Sy 6)), n, 1, rfl, by decide, n24, rb, gb, by omega, wb, fun H9 s9 => ⟨true, rfl, ifn rfl ⟨_, _, _, _, _, rfl, S7.trans s9⟩⟩⟩
            · rw [← eG]
              refine ⟨_, rfl, _, _, rfl, rfl, ⟨by decide, by decide⟩, _, _, rfl, rfl, (by show (0 : Int) < 2; decide), l, _, _, (V.ref r2), rfl, rfl, SqL.of h3, (by rw [e9]; rfl), ?_⟩
              have rb : SayR G7 7 (V.ref r2) (SyF.tm sm (x % 4) : SyF (Sy 6)) := ⟨r2, vm, rfl, h2, rm7⟩
              have gb : Good n 1 7 (SyF.tm sm (x % 4) : SyF (Sy 6)) := ⟨x4a, by omega, gm, fun z => absurd z (by decide)⟩
              have nb : nod 7 (SyF.tm sm (x % 4) : SyF (Sy 6)) ≤ 300 := (by show 1 + nod 6 sm ≤ 300; omega)
              have wb : ¬ Wr 7 (SyF.tm sm (x % 4) : SyF (Sy 6)) := fun z => z.1 tm
              refine ⟨_, rfl, _, _, rfl, rfl, ⟨by decide, by decide⟩, _, _, rfl, rfl, (by show (0 : Int) < 2; decide), rfl, _, rfl, if2 (fun e => ?_) (fun e => ?_)⟩
              · refine ⟨two_fit, fun q1 q10 => ⟨two_fit, fun q2 q20 => ⟨_, rfl, two_fit, fun q3 q30 => ⟨two_fit, fun q4 q40 => ?_⟩⟩⟩⟩
                have sQ := (Same.new (o := .tup (chV false 0)) q10).trans ((Same.new (o := .tup [V.str "change", .ref q1]) q20).trans ((Same.new (o := .tup [.ref q2, (V.ref r2)]) q30).trans (Same.new (o := .tup [V.str "row", .ref q3]) q40)))
                have g2 := ((Same.new (o := .tup [.ref q2, (V.ref r2)]) q30).trans (Same.new (o := .tup [V.str "row", .ref q3]) q40)) _ _ (upd_same (H := upd G7 q1 (.tup (chV false 0))) (a := q2) (o := .tup [V.str "change", .ref q1]))
                have g1 := ((Same.new (o := .tup [V.str "change", .ref q1]) q20).trans ((Same.new (o := .tup [.ref q2, (V.ref r2)]) q30).trans (Same.new (o := .tup [V.str "row", .ref q3]) q40))) _ _ (upd_same (H := G7) (a := q1) (o := .tup (chV false 0)))
                refine ⟨_, rfl, 8, .ref q4, (SyF.row [(SyF.ch false 0 : SyF (Sy 6)), (SyF.tm sm (x % 4) : SyF (Sy 6))] : SyF (Sy 7)), n, 1, rfl, by decide, n24, ⟨q4, q3, _, rfl, upd_same, Same.new q40 _ _ upd_same, .cons ⟨q2, q1, rfl, g2, g1⟩ (.cons (SayR.mono sQ.tk 7 _ _ rb) .nil)⟩, ⟨by show 2 ≤ 60; decide, fun u hu => ?_⟩, ?_, (fun z => wb (z _ (List.mem_cons_of_mem _ List.mem_cons_self))), fun H9 s9 => ⟨true, rfl, ifn rfl ⟨_, _, _, _, _, rfl, S7.trans (sQ.trans s9)⟩⟩⟩
                · rcases List.mem_cons.mp hu with rfl | hu
                  · exact ⟨Int.le_refl 0, hn⟩
                  · rw [List.mem_singleton.mp hu]
                    exact gb
                · show 1 + (1 + (nod 7 (SyF.tm sm (x % 4) : SyF (Sy 6)) + 0)) ≤ 3280
                  omega
              · exact ⟨_, rfl, 7, (V.ref r2), (SyF.tm sm (x % 4) : SyF (Sy 6)), n, 1, rfl, by decide, n24, rb, gb, by omega, wb, fun H9 s9 => ⟨true, rfl, ifn rfl ⟨_, _, _, _, _, rfl, S7.trans s9⟩⟩⟩
          · have S6 := S5
            obtain ⟨G6, eG6⟩ : ∃ G6, G6 = G5 := ⟨_, rfl⟩
            subst eG6
            obtain ⟨vm, evm⟩ : ∃ vm, vm = V.ref p3 := ⟨_, rfl⟩
            obtain ⟨sm, rm, gm, nm, tm⟩ : ∃ sm : Sy 6, SayR G6 6 vm sm ∧ Good n 1 6 sm ∧ nod 6 sm ≤ 200 ∧ isTm 6 sm := ⟨(SyF.tm (SyF.ch true (x / 4 % n) : SyF (Sy 4)) (x / 96 % 5) : SyF (Sy 5)), by rw [evm]; exact rm0, gm0, (by show 1 + 1 ≤ 200; decide), True.intro⟩
            rw [← evm]
            refine ⟨_, rfl, two_fit, fun r1 r10 => ⟨_, rfl, _, rfl, _, _, rfl, rfl, (by show (0 : Int) < 4; decide), three_fit, fun r2 r20 => ⟨two_fit, fun l l0 => ?_⟩⟩⟩
            have x4a := mod_lo x (n := 4) (by decide)
            have x4b := mod_hi x (n := 4) (by decide)
            obtain ⟨G7, eG⟩ : ∃ G7, G7 = upd (upd (upd G6 r1 (.tup [V.str "undo", vm])) r2 (.tup [V.str "times", vm, .int (x % 4)])) l (.lst [.ref r1, .ref r2]) := ⟨_, rfl⟩
            have sT : Same G6 G7 := eG ▸ (Same.new r10).trans ((Same.new r20).trans (Same.new l0))
            have h1 : G7 r1 = some (.tup [V.str "undo", vm]) := eG ▸ ((Same.new r20).trans (Same.new l0)) _ _ upd_same
            have h2 : G7 r2 = some (.tup [V.str "times", vm, .int (x % 4)]) := eG ▸ (Same.new l0) _ _ upd_same
            have h3 : G7 l = some (.lst [.ref r1, .ref r2]) := eG ▸ upd_same
            have S7 := S6.trans sT
            have rm7 := SayR.mono sT.tk _ _ _ rm
            rcases (by omega : x / 2 % 2 = 0 ∨ x / 2 % 2 = 1) with e9 | e9
            · rw [← eG]
              refine ⟨_, rfl, _, _, rfl, rfl, ⟨by decide, by decide⟩, _, _, rfl, rfl, (by show (0 : Int) < 2; decide), l, _, _, (V.ref r1), rfl, rfl, SqL.of h3, (by rw [e9]; rfl), ?_⟩
              have rb : SayR G7 7 (V.ref r1) (SyF.un sm : SyF (Sy 6)) := ⟨r1, vm, rfl, h1, rm7⟩
              have gb : Good n 1 7 (SyF.un sm : SyF (Sy 6)) := ⟨gm, fun z => absurd z (by decide)⟩
              have nb : nod 7 (SyF.un sm : SyF (Sy 6)) ≤ 300 := (by show 1 + nod 6 sm ≤ 300; omega)
              have wb : ¬ Wr 7 (SyF.un sm : SyF (Sy 6)) := fun z => z.1 tm
              refine ⟨_, rfl, _, _, rfl, rfl, ⟨by decide, by decide⟩, _, _, rfl, rfl, (by show (0 : Int) < 2; decide), rfl, _, rfl, if2 (fun e => ?_) (fun e => ?_)⟩
              · refine ⟨two_fit, fun q1 q10 => ⟨two_fit, fun q2 q20 => ⟨_, rfl, two_fit, fun q3 q30 => ⟨two_fit, fun q4 q40 => ?_⟩⟩⟩⟩
                have sQ := (Same.new (o := .tup (chV false 0)) q10).trans ((Same.new (o := .tup [V.str "change", .ref q1]) q20).trans ((Same.new (o := .tup [.ref q2, (V.ref r1)]) q30).trans (Same.new (o := .tup [V.str "row", .ref q3]) q40)))
                have g2 := ((Same.new (o := .tup [.ref q2, (V.ref r1)]) q30).trans (Same.new (o := .tup [V.str "row", .ref q3]) q40)) _ _ (upd_same (H := upd G7 q1 (.tup (chV false 0))) (a := q2) (o := .tup [V.str "change", .ref q1]))
                have g1 := ((Same.new (o := .tup [V.str "change", .ref q1]) q20).trans ((Same.new (o := .tup [.ref q2, (V.ref r1)]) q30).trans (Same.new (o := .tup [V.str "row", .ref q3]) q40))) _ _ (upd_same (H := G7) (a := q1) (o := .tup (chV false 0)))
                refine ⟨_, rfl, 8, .ref q4, (SyF.row [(SyF.ch false 0 : SyF (Sy 6)), (SyF.un sm : SyF (Sy 6))] : SyF (Sy 7)), n, 1, rfl, by decide, n24, ⟨q4, q3, _, rfl, upd_same, Same.new q40 _ _ upd_same, .cons ⟨q2, q1, rfl, g2, g1⟩ (.cons (SayR.mono sQ.tk 7 _ _ rb) .nil)⟩, ⟨by show 2 ≤ 60; decide, fun u hu => ?_⟩, ?_, (fun z => wb (z _ (List.mem_cons_of_mem _ List.mem_cons_self))), fun H9 s9 => ⟨true, rfl, ifn rfl ⟨_, _, _, _, _, rfl, S7.trans (sQ.trans s9)⟩⟩⟩
                · rcases List.mem_cons.mp hu with rfl | hu
                  · exact ⟨Int.le_refl 0, hn⟩
                  · rw [List.mem_singleton.mp hu]
                    exact gb
                · show 1 + (1 + (nod 7 (SyF.un sm : SyF (Sy 6)) + 0)) ≤ 3280
                  omega
              · exact ⟨_, rfl, 7, (V.ref r1), (SyF.un sm : SyF (Sy 6)), n, 1, rfl, by decide, n24, rb, gb, by omega, wb, fun H9 s9 => ⟨true, rfl, ifn rfl ⟨_, _, _, _, _, rfl, S7.trans s9⟩⟩⟩
            · rw [← eG]
              refine ⟨_, rfl, _, _, rfl, rfl, ⟨by decide, by decide⟩, _, _, rfl, rfl, (by show (0 : Int) < 2; decide), l, _, _, (V.ref r2), rfl, rfl, SqL.of h3, (by rw [e9]; rfl), ?_⟩
              have rb : SayR G7 7 (V.ref r2) (SyF.tm sm (x % 4) : SyF (Sy 6)) := ⟨r2, vm, rfl, h2, rm7⟩
              have gb : Good n 1 7 (SyF.tm sm (x % 4) : SyF (Sy 6)) := ⟨x4a, by omega, gm, fun z => absurd z (by decide)⟩
              have nb : nod 7 (SyF.tm sm (x % 4) : SyF (Sy 6)) ≤ 300 := (by show 1 + nod 6 sm ≤ 300; omega)
              have wb : ¬ Wr 7 (SyF.tm sm (x % 4) : SyF (Sy 6)) := fun z => z.1 tm
              refine ⟨_, rfl, _, _, rfl, rfl, ⟨by decide, by decide⟩, _, _, rfl, rfl, (by show (0 : Int) < 2; decide), rfl, _, rfl, if2 (fun e => ?_) (fun e => ?_)⟩
              · refine ⟨two_fit, fun q1 q10 => ⟨two_fit, fun q2 q20 => ⟨_, rfl, two_fit, fun q3 q30 => ⟨two_fit, fun q4 q40 => ?_⟩⟩⟩⟩
                have sQ := (Same.new (o := .tup (chV false 0)) q10).trans ((Same.new (o := .tup [V.str "change", .ref q1]) q20).trans ((Same.new (o := .tup [.ref q2, (V.ref r2)]) q30).trans (Same.new (o := .tup [V.str "row", .ref q3]) q40)))
                have g2 := ((Same.new (o := .tup [.ref q2, (V.ref r2)]) q30).trans (Same.new (o := .tup [V.str "row", .ref q3]) q40)) _ _ (upd_same (H := upd G7 q1 (.tup (chV false 0))) (a := q2) (o := .tup [V.str "change", .ref q1]))
                have g1 := ((Same.new (o := .tup [V.str "change", .ref q1]) q20).trans ((Same.new (o := .tup [.ref q2, (V.ref r2)]) q30).trans (Same.new (o := .tup [V.str "row", .ref q3]) q40))) _ _ (upd_same (H := G7) (a := q1) (o := .tup (chV false 0)))
                refine ⟨_, rfl, 8, .ref q4, (SyF.row [(SyF.ch false 0 : SyF (Sy 6)), (SyF.tm sm (x % 4) : SyF (Sy 6))] : SyF (Sy 7)), n, 1, rfl, by decide, n24, ⟨q4, q3, _, rfl, upd_same, Same.new q40 _ _ upd_same, .cons ⟨q2, q1, rfl, g2, g1⟩ (.cons (SayR.mono sQ.tk 7 _ _ rb) .nil)⟩, ⟨by show 2 ≤ 60; decide, fun u hu => ?_⟩, ?_, (fun z => wb (z _ (List.mem_cons_of_mem _ List.mem_cons_self))), fun H9 s9 => ⟨true, rfl, ifn rfl ⟨_, _, _, _, _, rfl, S7.trans (sQ.trans s9)⟩⟩⟩
                · rcases List.mem_cons.mp hu with rfl | hu
                  · exact ⟨Int.le_refl 0, hn⟩
                  · rw [List.mem_singleton.mp hu]
                    exact gb
                · show 1 + (1 + (nod 7 (SyF.tm sm (x % 4) : SyF (Sy 6)) + 0)) ≤ 3280
                  omega
              · exact ⟨_, rfl, 7, (V.ref r2), (SyF.tm sm (x % 4) : SyF (Sy 6)), n, 1, rfl, by decide, n24, rb, gb, by omega, wb, fun H9 s9 => ⟨true, rfl, ifn rfl ⟨_, _, _, _, _, rfl, S7.trans s9⟩⟩⟩
        · have S6 := S5
          obtain ⟨G6, eG6⟩ : ∃ G6, G6 = G5 := ⟨_, rfl⟩
          subst eG6
          obtain ⟨vm, evm⟩ : ∃ vm, vm = V.ref p3 := ⟨_, rfl⟩
          obtain ⟨sm, rm, gm, nm, tm⟩ : ∃ sm : Sy 6, SayR G6 6 vm sm ∧ Good n 1 6 sm ∧ nod 6 sm ≤ 200 ∧ isTm 6 sm := ⟨(SyF.tm (SyF.ch true (x / 4 % n) : SyF (Sy 4)) (x / 96 % 5) : SyF (Sy 5)), by rw [evm]; exact rm0, gm0, (by show 1 + 1 ≤ 200; decide), True.intro⟩
          rw [← evm]
          refine ⟨_, rfl, two_fit, fun r1 r10 => ⟨_, rfl, _, rfl, _, _, rfl, rfl, (by show (0 : Int) < 4; decide), three_fit, fun r2 r20 => ⟨two_fit, fun l l0 => ?_⟩⟩⟩
          have x4a := mod_lo x (n := 4) (by decide)
          have x4b := mod_hi x (n := 4) (by decide)
          obtain ⟨G7, eG⟩ : ∃ G7, G7 = upd (upd (upd G6 r1 (.tup [V.str "undo", vm])) r2 (.tup [V.str "times", vm, .int (x % 4)])) l (.lst [.ref r1, .ref r2]) := ⟨_, rfl⟩
          have sT : Same G6 G7 := eG ▸ (Same.new r10).trans ((Same.new r20).trans (Same.new l0))
          have h1 : G7 r1 = some (.tup [V.str "undo", vm]) := eG ▸ ((Same.new r20).trans (Same.new l0)) _ _ upd_same
          have h2 : G7 r2 = some (.tup [V.str "times", vm, .int (x % 4)]) := eG ▸ (Same.new l0) _ _ upd_same
          have h3 : G7 l = some (.lst [.ref r1, .ref r2]) := eG ▸ upd_same
          have S7 := S6.trans sT
          have rm7 := SayR.mono sT.tk _ _ _ rm
          rcases (by omega : x / 2 % 2 = 0 ∨ x / 2 % 2 = 1) with e9 | e9
          · rw [← eG]
            refine ⟨_, rfl, _, _, rfl, rfl, ⟨by decide, by decide⟩, _, _, rfl, rfl, (by show (0 : Int) < 2; decide), l, _, _, (V.ref r1), rfl, rfl, SqL.of h3, (by rw [e9]; rfl), ?_⟩
            have rb : SayR G7 7 (V.ref r1) (SyF.un sm : SyF (Sy 6)) := ⟨r1, vm, rfl, h1, rm7⟩
            have gb : Good n 1 7 (SyF.un sm : SyF (Sy 6)) := ⟨gm, fun z => absurd z (by decide)⟩
            have nb : nod 7 (SyF.un sm : SyF (Sy 6)) ≤ 300 := (by show 1 + nod 6 sm ≤ 300; omega)
            have wb : ¬ Wr 7 (SyF.un sm : SyF (Sy 6)) := fun z => z.1 tm
            refine ⟨_, rfl, _, _, rfl, rfl, ⟨by decide, by decide⟩, _, _, rfl, rfl, (by show (0 : Int) < 2; decide), rfl, _, rfl, if2 (fun e => ?_) (fun e => ?_)⟩
            · refine ⟨two_fit, fun q1 q10 => ⟨two_fit, fun q2 q20 => ⟨_, rfl, two_fit, fun q3 q30 => ⟨two_fit, fun q4 q40 => ?_⟩⟩⟩⟩
              have sQ := (Same.new (o := .tup (chV false 0)) q10).trans ((Same.new (o := .tup [V.str "change", .ref q1]) q20).trans ((Same.new (o := .tup [.ref q2, (V.ref r1)]) q30).trans (Same.new (o := .tup [V.str "row", .ref q3]) q40)))
              have g2 := ((Same.new (o := .tup [.ref q2, (V.ref r1)]) q30).trans (Same.new (o := .tup [V.str "row", .ref q3]) q40)) _ _ (upd_same (H := upd G7 q1 (.tup (chV false 0))) (a := q2) (o := .tup [V.str "change", .ref q1]))
              have g1 := ((Same.new (o := .tup [V.str "change", .ref q1]) q20).trans ((Same.new (o := .tup [.ref q2, (V.ref r1)]) q30).trans (Same.new (o := .tup [V.str "row", .ref q3]) q40))) _ _ (upd_same (H := G7) (a := q1) (o := .tup (chV false 0)))
              refine ⟨_, rfl, 8, .ref q4, (SyF.row [(SyF.ch false 0 : SyF (Sy 6)), (SyF.un sm : SyF (Sy 6))] : SyF (Sy 7)), n, 1, rfl, by decide, n24, ⟨q4, q3, _, rfl, upd_same, Same.new q40 _ _ upd_same, .cons ⟨q2, q1, rfl, g2, g1⟩ (.cons (SayR.mono sQ.tk 7 _ _ rb) .nil)⟩, ⟨by show 2 ≤ 60; decide, fun u hu => ?_⟩, ?_, (fun z => wb (z _ (List.mem_cons_of_mem _ List.mem_cons_self))), fun H9 s9 => ⟨true, rfl, ifn rfl ⟨_, _, _, _, _, rfl, S7.trans (sQ.trans s9)⟩⟩⟩
              · rcases List.mem_cons.mp hu with rfl | hu
                · exact ⟨Int.le_refl 0, hn⟩
                · rw [List.mem_singleton.mp hu]
                  exact gb
              · show 1 + (1 + (nod 7 (SyF.un sm : SyF (Sy 6)) + 0)) ≤ 3280
                omega
            · exact ⟨_, rfl, 7, (V.ref r1), (SyF.un sm : SyF (Sy 6)), n, 1, rfl, by decide, n24, rb, gb, by omega, wb, fun H9 s9 => ⟨true, rfl, ifn rfl ⟨_, _, _, _, _, rfl, S7.trans s9⟩⟩⟩
          · rw [← eG]
            refine ⟨_, rfl, _, _, rfl, rfl, ⟨by decide, by decide⟩, _, _, rfl, rfl, (by show (0 : Int) < 2; decide), l, _, _, (V.ref r2), rfl, rfl, SqL.of h3, (by rw [e9]; rfl), ?_⟩
            have rb : SayR G7 7 (V.ref r2) (SyF.tm sm (x % 4) : SyF (Sy 6)) := ⟨r2, vm, rfl, h2, rm7⟩
            have gb : Good n 1 7 (SyF.tm sm (x % 4) : SyF (Sy 6)) := ⟨x4a, by omega, gm, fun z => absurd z (by decide)⟩
            have nb : nod 7 (SyF.tm sm (x % 4) : SyF (Sy 6)) ≤ 300 := (by show 1 + nod 6 sm ≤ 300; omega)
            have wb : ¬ Wr 7 (SyF.tm sm (x % 4) : SyF (Sy 6)) := fun z => z.1 tm
            refine ⟨_, rfl, _, _, rfl, rfl, ⟨by decide, by decide⟩, _, _, rfl, rfl, (by show (0 : Int) < 2; decide), rfl, _, rfl, if2 (fun e => ?_) (fun e => ?_)⟩
            · refine ⟨two_fit, fun q1 q10 => ⟨two_fit, fun q2 q20 => ⟨_, rfl, two_fit, fun q3 q30 => ⟨two_fit, fun q4 q40 => ?_⟩⟩⟩⟩
              have sQ := (Same.new (o := .tup (chV false 0)) q10).trans ((Same.new (o := .tup [V.str "change", .ref q1]) q20).trans ((Same.new (o := .tup [.ref q2, (V.ref r2)]) q30).trans (Same.new (o := .tup [V.str "row", .ref q3]) q40)))
              have g2 := ((Same.new (o := .tup [.ref q2, (V.ref r2)]) q30).trans (Same.new (o := .tup [V.str "row", .ref q3]) q40)) _ _ (upd_same (H := upd G7 q1 (.tup (chV false 0))) (a := q2) (o := .tup [V.str "change", .ref q1]))
              have g1 := ((Same.new (o := .tup [V.str "change", .ref q1]) q20).trans ((Same.new (o := .tup [.ref q2, (V.ref r2)]) q30).trans (Same.new (o := .tup [V.str "row", .ref q3]) q40))) _ _ (upd_same (H := G7) (a := q1) (o := .tup (chV false 0)))
              refine ⟨_, rfl, 8, .ref q4, (SyF.row [(SyF.ch false 0 : SyF (Sy 6)), (SyF.tm sm (x % 4) : SyF (Sy 6))] : SyF (Sy 7)), n, 1, rfl, by decide, n24, ⟨q4, q3, _, rfl, upd_same, Same.new q40 _ _ upd_same, .cons ⟨q2, q1, rfl, g2, g1⟩ (.cons (SayR.mono sQ.tk 7 _ _ rb) .nil)⟩, ⟨by show 2 ≤ 60; decide, fun u hu => ?_⟩, ?_, (fun z => wb (z _ (List.mem_cons_of_mem _ List.mem_cons_self))), fun H9 s9 => ⟨true, rfl, ifn rfl ⟨_, _, _, _, _, rfl, S7.trans (sQ.trans s9)⟩⟩⟩
              · rcases List.mem_cons.mp hu with rfl | hu
                · exact ⟨Int.le_refl 0, hn⟩
                · rw [List.mem_singleton.mp hu]
                  exact gb
              · show 1 + (1 + (nod 7 (SyF.tm sm (x % 4) : SyF (Sy 6)) + 0)) ≤ 3280
                omega
            · exact ⟨_, rfl, 7, (V.ref r2), (SyF.tm sm (x % 4) : SyF (Sy 6)), n, 1, rfl, by decide, n24, rb, gb, by omega, wb, fun H9 s9 => ⟨true, rfl, ifn rfl ⟨_, _, _, _, _, rfl, S7.trans s9⟩⟩⟩
      · rintro σ G ⟨w1, w2, w3, w4, w5, rfl, sG⟩
        exact q _
    · have S1 := Same.refl H
      refine ⟨_, rfl, by decide, by decide, for_range (fun i σ G => ∃ (w1 w2 w3 w4 w5 : Option V), σ = [some (.ref a), some (.int n), w1, w2, w3, w4, w5] ∧ Same H G) ⟨_, _, _, _, _, rfl, S1⟩ ?_ ?_⟩
      · rintro i σ G hi ⟨w1, w2, w3, w4, w5, rfl, sG⟩
        have hi : i < 3 := hi
        refine ⟨_, rfl, _, rfl, _, _, rfl, rfl, .inl ⟨by decide, by decide⟩, _, _, rfl, rfl, _, rfl, _, _, rfl, rfl, .inl ⟨by decide, by decide⟩, _, _, rfl, rfl, three_fit, fun b b0 => ?_⟩
        have c5 : cntS 5 = 121 := by decide
        refine ⟨_, rfl, 5, a, ns, b, _, _, 0, n, rfl, (fun H' z => (SameX.back b0 (Same.new b0) z).seq (sG.seq hS)), hl, upd_same, ⟨by omega, by rw [c5]; omega⟩, hn, n24, by decide, by decide, fun v H2 i2 s sx hb2 il iu rs gs nn => ?_⟩
        have s2 := SameX.back b0 (Same.new b0) sx
        have n5 : nod 5 s ≤ 121 := by rw [c5] at iu; omega
        refine ⟨_, rfl, 5, v, s, n, rfl, by decide, n24, rs, gs, by omega, fun H3 s3 => ⟨true, rfl, ifn rfl ?_⟩⟩
        have S3 := sG.trans (s2.trans s3)
        have rs3 := SayR.mono s3.tk _ _ _ rs
        refine ⟨_, rfl, _, rfl, _, _, rfl, rfl, a, ns, _, 50, rfl, S3.seq hS, hl, ⟨by omega, by omega⟩, ⟨by decide, by decide⟩, fun x x0 x1 => ?_⟩
        refine ⟨_, rfl, _, _, rfl, rfl, ⟨by decide, by decide⟩, _, rfl, _, _, rfl, rfl, hn, two_fit, fun p1 p10 => ⟨two_fit, fun p2 p20 => ⟨_, rfl, _, _, rfl, rfl, ⟨by decide, by decide⟩, _, _, rfl, rfl, (by show (0 : Int) < 5; decide), three_fit, fun p3 p30 => ?_⟩⟩⟩
        have k0 := mod_lo (x / 96) (n := 5) (by decide)
        have k1 := mod_hi (x / 96) (n := 5) (by decide)
        have sP := (Same.new (o := .tup [V.str "turn", V.int (x / 4 % n)]) p10).trans ((Same.new (o := .tup [V.str "change", .ref p1]) p20).trans (Same.new (o := .tup [V.str "times", .ref p2, .int (x / 96 % 5)]) p30))
        have f1 := ((Same.new (o := .tup [V.str "change", .ref p1]) p20).trans (Same.new (o := .tup [V.str "times", .ref p2, .int (x / 96 % 5)]) p30)) _ _ (upd_same (H := H3) (a := p1) (o := .tup [V.str "turn", V.int (x / 4 % n)]))
        have f2 := (Same.new (o := .tup [V.str "times", .ref p2, .int (x / 96 % 5)]) p30) _ _ (upd_same (H := upd H3 p1 (.tup [V.str "turn", V.int (x / 4 % n)])) (a := p2) (o := .tup [V.str "change", .ref p1]))
        have f3 : (upd (upd (upd H3 p1 (.tup [V.str "turn", V.int (x / 4 % n)])) p2 (.tup [V.str "change", .ref p1])) p3 (.tup [V.str "times", .ref p2, .int (x / 96 % 5)])) p3 = some (.tup [V.str "times", .ref p2, .int (x / 96 % 5)]) := upd_same
        generalize upd (upd (upd H3 p1 (.tup [V.str "turn", V.int (x / 4 % n)])) p2 (.tup [V.str "change", .ref p1])) p3 (.tup [V.str "times", .ref p2, .int (x / 96 % 5)]) = G5 at sP f1 f2 f3 ⊢
        have S5 := S3.trans sP
        have rs5 := SayR.mono sP.tk _ _ _ rs3
        have rm0 : SayR G5 6 (.ref p3) (SyF.tm (SyF.ch true (x / 4 % n) : SyF (Sy 4)) (x / 96 % 5) : SyF (Sy 5)) := ⟨p3, .ref p2, rfl, f3, p2, p1, rfl, f2, f1⟩
        have gm0 : Good n 1 6 (SyF.tm (SyF.ch true (x / 4 % n) : SyF (Sy 4)) (x / 96 % 5) : SyF (Sy 5)) := ⟨k0, by omega, ⟨mod_lo _ hn, mod_hi _ hn⟩, fun z => absurd z (by decide)⟩
        obtain ⟨pv, hx, xs, ev, hv, ht⟩ := say_head rs5
        subst ev
        refine ⟨_, rfl, _, _, rfl, rfl, (by show (0 : Int) < 2; decide), rfl, _, rfl, if2 (fun e => ?_) (fun e => ifn rfl ?_)⟩
        · refine ⟨_, rfl, pv, _, _, V.str hx, rfl, rfl, SqT.of hv, at_head _ _, rfl, _, rfl, if2 (fun e2 => ?_) (fun e2 => ?_)⟩
          · refine ⟨_, rfl, _, rfl, _, _, rfl, rfl, ⟨by decide, by decide⟩, _, _, rfl, rfl, (by show (0 : Int) < 5; decide), three_fit, fun p4 p40 => ?_⟩
            have s6 := Same.new (o := .tup [V.str "times", .ref pv, .int (x / 96 % 5)]) p40
            have f4 : (upd G5 p4 (.tup [V.str "times", .ref pv, .int (x / 96 % 5)])) p4 = some (.tup [V.str "times", .ref pv, .int (x / 96 % 5)]) := upd_same
            generalize upd G5 p4 (.tup [V.str "times", .ref pv, .int (x / 96 % 5)]) = G6 at s6 f4 ⊢
            have S6 := S5.trans s6
            obtain ⟨vm, evm⟩ : ∃ vm, vm = V.ref p4 := ⟨_, rfl⟩
            obtain ⟨sm, rm, gm, nm, tm⟩ : ∃ sm : Sy 6, SayR G6 6 vm sm ∧ Good n 1 6 sm ∧ nod 6 sm ≤ 200 ∧ isTm 6 sm := ⟨(SyF.tm s (x / 96 % 5) : SyF (Sy 5)), ⟨p4, .ref pv, evm, f4, SayR.mono s6.tk _ _ _ rs5⟩, ⟨k0, by omega, good_mono 5 s gs, fun z => absurd z (by decide)⟩, (by show 1 + nod 5 s ≤ 200; omega), True.intro⟩
            rw [← evm]
            refine ⟨_, rfl, two_fit, fun r1 r10 => ⟨_, rfl, _, rfl, _, _, rfl, rfl, (by show (0 : Int) < 4; decide), three_fit, fun r2 r20 => ⟨two_fit, fun l l0 => ?_⟩⟩⟩
            have x4a := mod_lo x (n := 4) (by decide)
            have x4b := mod_hi x (n := 4) (by decide)
            obtain ⟨G7, eG⟩ : ∃ G7, G7 = upd (upd (upd G6 r1 (.tup [V.str "undo", vm])) r2 (.tup [V.str "times", vm, .int (x % 4)])) l (.lst [.ref r1, .ref r2]) := ⟨_, rfl⟩
            have sT : Same G6 G7 := eG ▸ (Same.new r10).trans ((Same.new r20).trans (Same.new l0))
            have h1 : G7 r1 = some (.tup [V.str "undo", vm]) := eG ▸ ((Same.new r20).trans (Same.new l0)) _ _ upd_same
            have h2 : G7 r2 = some (.tup [V.str "times", vm, .int (x % 4)]) := eG ▸ (Same.new l0) _ _ upd_same
            have h3 : G7 l = some (.lst [.ref r1, .ref r2]) := eG ▸ upd_same
            have S7 := S6.trans sT
            have rm7 := SayR.mono sT.tk _ _ _ rm
            rcases (by omega : x / 2 % 2 = 0 ∨ x / 2 % 2 = 1) with e9 | e9
            · rw [← eG]
              refine ⟨_, rfl, _, _, rfl, rfl, ⟨by decide, by decide⟩, _, _, rfl, rfl, (by show (0 : Int) < 2; decide), l, _, _, (V.ref r1), rfl, rfl, SqL.of h3, (by rw [e9]; rfl), ?_⟩
              have rb : SayR G7 7 (V.ref r1) (SyF.un sm : SyF (Sy 6)) := ⟨r1, vm, rfl, h1, rm7⟩
              have gb : Good n 1 7 (SyF.un sm : SyF (Sy 6)) := ⟨gm, fun z => absurd z (by decide)⟩
              have nb : nod 7 (SyF.un sm : SyF (Sy 6)) ≤ 300 := (by show 1 + nod 6 sm ≤ 300; omega)
              have wb : ¬ Wr 7 (SyF.un sm : SyF (Sy 6)) := fun z => z.1 tm
              refine ⟨_, rfl, _, _, rfl, rfl, ⟨by decide, by decide⟩, _, _, rfl, rfl, (by show (0 : Int) < 2; decide), rfl, _, rfl, if2 (fun e => ?_) (fun e => ?_)⟩
              · refine ⟨two_fit, fun q1 q10 => ⟨two_fit, fun q2 q20 => ⟨_, rfl, two_fit, fun q3 q30 => ⟨two_fit, fun q4 q40 => ?_⟩⟩⟩⟩
                have sQ := (Same.new (o := .tup (chV false 0)) q10).trans ((Same.new (o := .tup [V.str "change", .ref q1]) q20).trans ((Same.new (o := .tup [.ref q2, (V.ref r1)]) q30).trans (Same.new (o := .tup [V.str "row", .ref q3]) q40)))
                have g2 := ((Same.new (o := .tup [.ref q2, (V.ref r1)]) q30).trans (Same.new (o := .tup [V.str "row", .ref q3]) q40)) _ _ (upd_same (H := upd G7 q1 (.tup (chV false 0))) (a := q2) (o := .tup [V.str "change", .ref q1]))
                have g1 := ((Same.new (o := .tup [V.str "change", .ref q1]) q20).trans ((Same.new (o := .tup [.ref q2, (V.ref r1)]) q30).trans (Same.new (o := .tup [V.str "row", .ref q3]) q40))) _ _ (upd_same (H := G7) (a := q1) (o := .tup (chV false 0)))
                refine ⟨_, rfl, 8, .ref q4, (SyF.row [(SyF.ch false 0 : SyF (Sy 6)), (SyF.un sm : SyF (Sy 6))] : SyF (Sy 7)), n, 1, rfl, by decide, n24, ⟨q4, q3, _, rfl, upd_same, Same.new q40 _ _ upd_same, .cons ⟨q2, q1, rfl, g2, g1⟩ (.cons (SayR.mono sQ.tk 7 _ _ rb) .nil)⟩, ⟨by show 2 ≤ 60; decide, fun u hu => ?_⟩, ?_, (fun z => wb (z _ (List.mem_cons_of_mem _ List.mem_cons_self))), fun H9 s9 => ⟨true, rfl, ifn rfl ⟨_, _, _, _, _, rfl, S7.trans (sQ.trans s9)⟩⟩⟩
                · rcases List.mem_cons.mp hu with rfl | hu
                  · exact ⟨Int.le_refl 0, hn⟩
                  · rw [List.mem_singleton.mp hu]
                    exact gb
                · show 1 + (1 + (nod 7 (SyF.un sm : SyF (Sy 6)) + 0)) ≤ 3280
                  omega
              · exact ⟨_, rfl, 7, (V.ref r1), (SyF.un sm : SyF (Sy 6)), n, 1, rfl, by decide, n24, rb, gb, by omega, wb, fun H9 s9 => ⟨true, rfl, ifn rfl ⟨_, _, _, _, _, rfl, S7.trans s9⟩⟩⟩
            · rw [← eG]
              refine ⟨_, rfl, _, _, rfl, rfl, ⟨by decide, by decide⟩, _, _, rfl, rfl, (by show (0 : Int) < 2; decide), l, _, _, (V.ref r2), rfl, rfl, SqL.of h3, (by rw [e9]; rfl), ?_⟩
              have rb : SayR G7 7 (V.ref r2) (SyF.tm sm (x % 4) : SyF (Sy 6)) := ⟨r2, vm, rfl, h2, rm7⟩
              have gb : Good n 1 7 (SyF.tm sm (x % 4) : SyF (Sy 6)) := ⟨x4a, by omega, gm, fun z => absurd z (by decide)⟩
              have nb : nod 7 (SyF.tm sm (x % 4) : SyF (Sy 6)) ≤ 300 := (by show 1 + nod 6 sm ≤ 300; omega)
              have wb : ¬ Wr 7 (SyF.tm sm (x % 4) : SyF (Sy 6)) := fun z => z.1 tm
              refine ⟨_, rfl, _, _, rfl, rfl, ⟨by decide, by decide⟩, _, _, rfl, rfl, (by show (0 : Int) < 2; decide), rfl, _, rfl, if2 (fun e => ?_) (fun e => ?_)⟩
              · refine ⟨two_fit, fun q1 q10 => ⟨two_fit, fun q2 q20 => ⟨_, rfl, two_fit, fun q3 q30 => ⟨two_fit, fun q4 q40 => ?_⟩⟩⟩⟩
                have sQ := (Same.new (o := .tup (chV false 0)) q10).trans ((Same.new (o := .tup [V.str "change", .ref q1]) q20).trans ((Same.new (o := .tup [.ref q2, (V.ref r2)]) q30).trans (Same.new (o := .tup [V.str "row", .ref q3]) q40)))
                have g2 := ((Same.new (o := .tup [.ref q2, (V.ref r2)]) q30).trans (Same.new (o := .tup [V.str "row", .ref q3]) q40)) _ _ (upd_same (H := upd G7 q1 (.tup (chV false 0))) (a := q2) (o := .tup [V.str "change", .ref q1]))
                have g1 := ((Same.new (o := .tup [V.str "change", .ref q1]) q20).trans ((Same.new (o := .tup [.ref q2, (V.ref r2)]) q30).trans (Same.new (o := .tup [V.str "row", .ref q3]) q40))) _ _ (upd_same (H := G7) (a := q1) (o := .tup (chV false 0)))
                refine ⟨_, rfl, 8, .ref q4, (SyF.row [(SyF.ch false 0 : SyF (Sy 6)), (SyF.tm sm (x % 4) : SyF (Sy 6))] : SyF (Sy 7)), n, 1, rfl, by decide, n24, ⟨q4, q3, _, rfl, upd_same, Same.new q40 _ _ upd_same, .cons ⟨q2, q1, rfl, g2, g1⟩ (.cons (SayR.mono sQ.tk 7 _ _ rb) .nil)⟩, ⟨by show 2 ≤ 60; decide, fun u hu => ?_⟩, ?_, (fun z => wb (z _ (List.mem_cons_of_mem _ List.mem_cons_self))), fun H9 s9 => ⟨true, rfl, ifn rfl ⟨_, _, _, _, _, rfl, S7.trans (sQ.trans s9)⟩⟩⟩
                · rcases List.mem_cons.mp hu with rfl | hu
                  · exact ⟨Int.le_refl 0, hn⟩
                  · rw [List.mem_singleton.mp hu]
                    exact gb
                · show 1 + (1 + (nod 7 (SyF.tm sm (x % 4) : SyF (Sy 6)) + 0)) ≤ 3280
                  omega
              · exact ⟨_, rfl, 7, (V.ref r2), (SyF.tm sm (x % 4) : SyF (Sy 6)), n, 1, rfl, by decide, n24, rb, gb, by omega, wb, fun H9 s9 => ⟨true, rfl, ifn rfl ⟨_, _, _, _, _, rfl, S7.trans s9⟩⟩⟩
          · have S6 := S5
            obtain ⟨G6, eG6⟩ : ∃ G6, G6 = G5 := ⟨_, rfl⟩
            subst eG6
            obtain ⟨vm, evm⟩ : ∃ vm, vm = V.ref p3 := ⟨_, rfl⟩
            obtain ⟨sm, rm, gm, nm, tm⟩ : ∃ sm : Sy 6, SayR G6 6 vm sm ∧ Good n 1 6 sm ∧ nod 6 sm ≤ 200 ∧ isTm 6 sm := ⟨(SyF.tm (SyF.ch true (x / 4 % n) : SyF (Sy 4)) (x / 96 % 5) : SyF (Sy 5)), by rw [evm]; exact rm0, gm0, (by show 1 + 1 ≤ 200; decide), True.intro⟩
            rw [← evm]
            refine ⟨_, rfl, two_fit, fun r1 r10 => ⟨_, rfl, _, rfl, _, _, rfl, rfl, (by show (0 : Int) < 4; decide), three_fit, fun r2 r20 => ⟨two_fit, fun l l0 => ?_⟩⟩⟩
            have x4a := mod_lo x (n := 4) (by decide)
            have x4b := mod_hi x (n := 4) (by decide)
            obtain ⟨G7, eG⟩ : ∃ G7, G7 = upd (upd (upd G6 r1 (.tup [V.str "undo", vm])) r2 (.tup [V.str "times", vm, .int (x % 4)])) l (.lst [.ref r1, .ref r2]) := ⟨_, rfl⟩
            have sT : Same G6 G7 := eG ▸ (Same.new r10).trans ((Same.new r20).trans (Same.new l0))
            have h1 : G7 r1 = some (.tup [V.str "undo", vm]) := eG ▸ ((Same.new r20).trans (Same.new l0)) _ _ upd_same
            have h2 : G7 r2 = some (.tup [V.str "times", vm, .int (x % 4)]) := eG ▸ (Same.new l0) _ _ upd_same
            have h3 : G7 l = some (.lst [.ref r1, .ref r2]) := eG ▸ upd_same
            have S7 := S6.trans sT
            have rm7 := SayR.mono sT.tk _ _ _ rm
            rcases (by omega : x / 2 % 2 = 0 ∨ x / 2 % 2 = 1) with e9 | e9
            · rw [← eG]
              refine ⟨_, rfl, _, _, rfl, rfl, ⟨by decide, by decide⟩, _, _, rfl, rfl, (by show (0 : Int) < 2; decide), l, _, _, (V.ref r1), rfl, rfl, SqL.of h3, (by rw [e9]; rfl), ?_⟩
              have rb : SayR G7 7 (V.ref r1) (SyF.un sm : SyF (Sy 6)) := ⟨r1, vm, rfl, h1, rm7⟩
              have gb : Good n 1 7 (SyF.un sm : SyF (Sy 6)) := ⟨gm, fun z => absurd z (by decide)⟩
              have nb : nod 7 (SyF.un sm : SyF (Sy 6)) ≤ 300 := (by show 1 + nod 6 sm ≤ 300; omega)
              have wb : ¬ Wr 7 (SyF.un sm : SyF (Sy 6)) := fun z => z.1 tm
              refine ⟨_, rfl, _, _, rfl, rfl, ⟨by decide, by decide⟩, _, _, rfl, rfl, (by show (0 : Int) < 2; decide), rfl, _, rfl, if2 (fun e => ?_) (fun e => ?_)⟩
              · refine ⟨two_fit, fun q1 q10 => ⟨two_fit, fun q2 q20 => ⟨_, rfl, two_fit, fun q3 q30 => ⟨two_fit, fun q4 q40 => ?_⟩⟩⟩⟩
                have sQ := (Same.new (o := .tup (chV false 0)) q10).trans ((Same.new (o := .tup [V.str "change", .ref q1]) q20).trans ((Same.new (o := .tup [.ref q2, (V.ref r1)]) q30).trans (Same.new (o := .tup [V.str "row", .ref q3]) q40)))
                have g2 := ((Same.new (o := .tup [.ref q2, (V.ref r1)]) q30).trans (Same.new (o := .tup [V.str "row", .ref q3]) q40)) _ _ (upd_same (H := upd G7 q1 (.tup (chV false 0))) (a := q2) (o := .tup [V.str "change", .ref q1]))
                have g1 := ((Same.new (o := .tup [V.str "change", .ref q1]) q20).trans ((Same.new (o := .tup [.ref q2, (V.ref r1)]) q30).trans (Same.new (o := .tup [V.str "row", .ref q3]) q40))) _ _ (upd_same (H := G7) (a := q1) (o := .tup (chV false 0)))
                refine ⟨_, rfl, 8, .ref q4, (SyF.row [(SyF.ch false 0 : SyF (Sy 6)), (SyF.un sm : SyF (Sy 6))] : SyF (Sy 7)), n, 1, rfl, by decide, n24, ⟨q4, q3, _, rfl, upd_same, Same.new q40 _ _ upd_same, .cons ⟨q2, q1, rfl, g2, g1⟩ (.cons (SayR.mono sQ.tk 7 _ _ rb) .nil)⟩, ⟨by show 2 ≤ 60; decide, fun u hu => ?_⟩, ?_, (fun z => wb (z _ (List.mem_cons_of_mem _ List.mem_cons_self))), fun H9 s9 => ⟨true, rfl, ifn rfl ⟨_, _, _, _, _, rfl, S7.trans (sQ.trans s9)⟩⟩⟩
                · rcases List.mem_cons.mp hu with rfl | hu
                  · exact ⟨Int.le_refl 0, hn⟩
                  · rw [List.mem_singleton.mp hu]
                    exact gb
                · show 1 + (1 + (nod 7 (SyF.un sm : SyF (Sy 6)) + 0)) ≤ 3280
                  omega
              · exact ⟨_, rfl, 7, (V.ref r1), (SyF.un sm : SyF (Sy 6)), n, 1, rfl, by decide, n24, rb, gb, by omega, wb, fun H9 s9 => ⟨true, rfl, ifn rfl ⟨_, _, _, _, _, rfl, S7.trans s9⟩⟩⟩
            · rw [← eG]
              refine ⟨_, rfl, _, _, rfl, rfl, ⟨by decide, by decide⟩, _, _, rfl, rfl, (by show (0 : Int) < 2; decide), l, _, _, (V.ref r2), rfl, rfl, SqL.of h3, (by rw [e9]; rfl), ?_⟩
              have rb : SayR G7 7 (V.ref r2) (SyF.tm sm (x % 4) : SyF (Sy 6)) := ⟨r2, vm, rfl, h2, rm7⟩
              have gb : Good n 1 7 (SyF.tm sm (x % 4) : SyF (Sy 6)) := ⟨x4a, by omega, gm, fun z => absurd z (by decide)⟩
              have nb : nod 7 (SyF.tm sm (x % 4) : SyF (Sy 6)) ≤ 300 := (by show 1 + nod 6 sm ≤ 300; omega)
              have wb : ¬ Wr 7 (SyF.tm sm (x % 4) : SyF (Sy 6)) := fun z => z.1 tm
              refine ⟨_, rfl, _, _, rfl, rfl, ⟨by decide, by decide⟩, _, _, rfl, rfl, (by show (0 : Int) < 2; decide), rfl, _, rfl, if2 (fun e => ?_) (fun e => ?_)⟩
              · refine ⟨two_fit, fun q1 q10 => ⟨two_fit, fun q2 q20 => ⟨_, rfl, two_fit, fun q3 q30 => ⟨two_fit, fun q4 q40 => ?_⟩⟩⟩⟩
                have sQ := (Same.new (o := .tup (chV false 0)) q10).trans ((Same.new (o := .tup [V.str "change", .ref q1]) q20).trans ((Same.new (o := .tup [.ref q2, (V.ref r2)]) q30).trans (Same.new (o := .tup [V.str "row", .ref q3]) q40)))
                have g2 := ((Same.new (o := .tup [.ref q2, (V.ref r2)]) q30).trans (Same.new (o := .tup [V.str "row", .ref q3]) q40)) _ _ (upd_same (H := upd G7 q1 (.tup (chV false 0))) (a := q2) (o := .tup [V.str "change", .ref q1]))
                have g1 := ((Same.new (o := .tup [V.str "change", .ref q1]) q20).trans ((Same.new (o := .tup [.ref q2, (V.ref r2)]) q30).trans (Same.new (o := .tup [V.str "row", .ref q3]) q40))) _ _ (upd_same (H := G7) (a := q1) (o := .tup (chV false 0)))
                refine ⟨_, rfl, 8, .ref q4, (SyF.row [(SyF.ch false 0 : SyF (Sy 6)), (SyF.tm sm (x % 4) : SyF (Sy 6))] : SyF (Sy 7)), n, 1, rfl, by decide, n24, ⟨q4, q3, _, rfl, upd_same, Same.new q40 _ _ upd_same, .cons ⟨q2, q1, rfl, g2, g1⟩ (.cons (SayR.mono sQ.tk 7 _ _ rb) .nil)⟩, ⟨by show 2 ≤ 60; decide, fun u hu => ?_⟩, ?_, (fun z => wb (z _ (List.mem_cons_of_mem _ List.mem_cons_self))), fun H9 s9 => ⟨true, rfl, ifn rfl ⟨_, _, _, _, _, rfl, S7.trans (sQ.trans s9)⟩⟩⟩
                · rcases List.mem_cons.mp hu with rfl | hu
                  · exact ⟨Int.le_refl 0, hn⟩
                  · rw [List.mem_singleton.mp hu]
                    exact gb
                · show 1 + (1 + (nod 7 (SyF.tm sm (x % 4) : SyF (Sy 6)) + 0)) ≤ 3280
                  omega
              · exact ⟨_, rfl, 7, (V.ref r2), (SyF.tm sm (x % 4) : SyF (Sy 6)), n, 1, rfl, by decide, n24, rb, gb, by omega, wb, fun H9 s9 => ⟨true, rfl, ifn rfl ⟨_, _, _, _, _, rfl, S7.trans s9⟩⟩⟩
        · have S6 := S5
          obtain ⟨G6, eG6⟩ : ∃ G6, G6 = G5 := ⟨_, rfl⟩
          subst eG6
          obtain ⟨vm, evm⟩ : ∃ vm, vm = V.ref p3 := ⟨_, rfl⟩
          obtain ⟨sm, rm, gm, nm, tm⟩ : ∃ sm : Sy 6, SayR G6 6 vm sm ∧ Good n 1 6 sm ∧ nod 6 sm ≤ 200 ∧ isTm 6 sm := ⟨(SyF.tm (SyF.ch true (x / 4 % n) : SyF (Sy 4)) (x / 96 % 5) : SyF (Sy 5)), by rw [evm]; exact rm0, gm0, (by show 1 + 1 ≤ 200; decide), True.intro⟩
          rw [← evm]
          refine ⟨_, rfl, two_fit, fun r1 r10 => ⟨_, rfl, _, rfl, _, _, rfl, rfl, (by show (0 : Int) < 4; decide), three_fit, fun r2 r20 => ⟨two_fit, fun l l0 => ?_⟩⟩⟩
          have x4a := mod_lo x (n := 4) (by decide)
          have x4b := mod_hi x (n := 4) (by decide)
          obtain ⟨G7, eG⟩ : ∃ G7, G7 = upd (upd (upd G6 r1 (.tup [V.str "undo", vm])) r2 (.tup [V.str "times", vm, .int (x % 4)])) l (.lst [.ref r1, .ref r2]) := ⟨_, rfl⟩
          have sT : Same G6 G7 := eG ▸ (Same.new r10).trans ((Same.new r20).trans (Same.new l0))
          have h1 : G7 r1 = some (.tup [V.str "undo", vm]) := eG ▸ ((Same.new r20).trans (Same.new l0)) _ _ upd_same
          have h2 : G7 r2 = some (.tup [V.str "times", vm, .int (x % 4)]) := eG ▸ (Same.new l0) _ _ upd_same
          have h3 : G7 l = some (.lst [.ref r1, .ref r2]) := eG ▸ upd_same
          have S7 := S6.trans sT
          have rm7 := SayR.mono sT.tk _ _ _ rm
          rcases (by omega : x / 2 % 2 = 0 ∨ x / 2 % 2 = 1) with e9 | e9
          · rw [← eG]
            refine ⟨_, rfl, _, _, rfl, rfl, ⟨by decide, by decide⟩, _, _, rfl, rfl, (by show (0 : Int) < 2; decide), l, _, _, (V.ref r1), rfl, rfl, SqL.of h3, (by rw [e9]; rfl), ?_⟩
            have rb : SayR G7 7 (V.ref r1) (SyF.un sm : SyF (Sy 6)) := ⟨r1, vm, rfl, h1, rm7⟩
            have gb : Good n 1 7 (SyF.un sm : SyF (Sy 6)) := ⟨gm, fun z => absurd z (by decide)⟩
            have nb : nod 7 (SyF.un sm : SyF (Sy 6)) ≤ 300 := (by show 1 + nod 6 sm ≤ 300; omega)
            have wb : ¬ Wr 7 (SyF.un sm : SyF (Sy 6)) := fun z => z.1 tm
            refine ⟨_, rfl, _, _, rfl, rfl, ⟨by decide, by decide⟩, _, _, rfl, rfl, (by show (0 : Int) < 2; decide), rfl, _, rfl, if2 (fun e => ?_) (fun e => ?_)⟩
            · refine ⟨two_fit, fun q1 q10 => ⟨two_fit, fun q2 q20 => ⟨_, rfl, two_fit, fun q3 q30 => ⟨two_fit, fun q4 q40 => ?_⟩⟩⟩⟩
              have sQ := (Same.new (o := .tup (chV false 0)) q10).trans ((Same.new (o := .tup [V.str "change", .ref q1]) q20).trans ((Same.new (o := .tup [.ref q2, (V.ref r1)]) q30).trans (Same.new (o := .tup [V.str "row", .ref q3]) q40)))
              have g2 := ((Same.new (o := .tup [.ref q2, (V.ref r1)]) q30).trans (Same.new (o := .tup [V.str "row", .ref q3]) q40)) _ _ (upd_same (H := upd G7 q1 (.tup (chV false 0))) (a := q2) (o := .tup [V.str "change", .ref q1]))
              have g1 := ((Same.new (o := .tup [V.str "change", .ref q1]) q20).trans ((Same.new (o := .tup [.ref q2, (V.ref r1)]) q30).trans (Same.new (o := .tup [V.str "row", .ref q3]) q40))) _ _ (upd_same (H := G7) (a := q1) (o := .tup (chV false 0)))
              refine ⟨_, rfl, 8, .ref q4, (SyF.row [(SyF.ch false 0 : SyF (Sy 6)), (SyF.un sm : SyF (Sy 6))] : SyF (Sy 7)), n, 1, rfl, by decide, n24, ⟨q4, q3, _, rfl, upd_same, Same.new q40 _ _ upd_same, .cons ⟨q2, q1, rfl, g2, g1⟩ (.cons (SayR.mono sQ.tk 7 _ _ rb) .nil)⟩, ⟨by show 2 ≤ 60; decide, fun u hu => ?_⟩, ?_, (fun z => wb (z _ (List.mem_cons_of_mem _ List.mem_cons_self))), fun H9 s9 => ⟨true, rfl, ifn rfl ⟨_, _, _, _, _, rfl, S7.trans (sQ.trans s9)⟩⟩⟩
              · rcases List.mem_cons.mp hu with rfl | hu
                · exact ⟨Int.le_refl 0, hn⟩
                · rw [List.mem_singleton.mp hu]
                  exact gb
              · show 1 + (1 + (nod 7 (SyF.un sm : SyF (Sy 6)) + 0)) ≤ 3280
                omega
            · exact ⟨_, rfl, 7, (V.ref r1), (SyF.un sm : SyF (Sy 6)), n, 1, rfl, by decide, n24, rb, gb, by omega, wb, fun H9 s9 => ⟨true, rfl, ifn rfl ⟨_, _, _, _, _, rfl, S7.trans s9⟩⟩⟩
          · rw [← eG]
            refine ⟨_, rfl, _, _, rfl, rfl, ⟨by decide, by decide⟩, _, _, rfl, rfl, (by show (0 : Int) < 2; decide), l, _, _, (V.ref r2), rfl, rfl, SqL.of h3, (by rw [e9]; rfl), ?_⟩
            have rb : SayR G7 7 (V.ref r2) (SyF.tm sm (x % 4) : SyF (Sy 6)) := ⟨r2, vm, rfl, h2, rm7⟩
            have gb : Good n 1 7 (SyF.tm sm (x % 4) : SyF (Sy 6)) := ⟨x4a, by omega, gm, fun z => absurd z (by decide)⟩
            have nb : nod 7 (SyF.tm sm (x % 4) : SyF (Sy 6)) ≤ 300 := (by show 1 + nod 6 sm ≤ 300; omega)
            have wb : ¬ Wr 7 (SyF.tm sm (x % 4) : SyF (Sy 6)) := fun z => z.1 tm
            refine ⟨_, rfl, _, _, rfl, rfl, ⟨by decide, by decide⟩, _, _, rfl, rfl, (by show (0 : Int) < 2; decide), rfl, _, rfl, if2 (fun e => ?_) (fun e => ?_)⟩
            · refine ⟨two_fit, fun q1 q10 => ⟨two_fit, fun q2 q20 => ⟨_, rfl, two_fit, fun q3 q30 => ⟨two_fit, fun q4 q40 => ?_⟩⟩⟩⟩
              have sQ := (Same.new (o := .tup (chV false 0)) q10).trans ((Same.new (o := .tup [V.str "change", .ref q1]) q20).trans ((Same.new (o := .tup [.ref q2, (V.ref r2)]) q30).trans (Same.new (o := .tup [V.str "row", .ref q3]) q40)))
              have g2 := ((Same.new (o := .tup [.ref q2, (V.ref r2)]) q30).trans (Same.new (o := .tup [V.str "row", .ref q3]) q40)) _ _ (upd_same (H := upd G7 q1 (.tup (chV false 0))) (a := q2) (o := .tup [V.str "change", .ref q1]))
              have g1 := ((Same.new (o := .tup [V.str "change", .ref q1]) q20).trans ((Same.new (o := .tup [.ref q2, (V.ref r2)]) q30).trans (Same.new (o := .tup [V.str "row", .ref q3]) q40))) _ _ (upd_same (H := G7) (a := q1) (o := .tup (chV false 0)))
              refine ⟨_, rfl, 8, .ref q4, (SyF.row [(SyF.ch false 0 : SyF (Sy 6)), (SyF.tm sm (x % 4) : SyF (Sy 6))] : SyF (Sy 7)), n, 1, rfl, by decide, n24, ⟨q4, q3, _, rfl, upd_same, Same.new q40 _ _ upd_same, .cons ⟨q2, q1, rfl, g2, g1⟩ (.cons (SayR.mono sQ.tk 7 _ _ rb) .nil)⟩, ⟨by show 2 ≤ 60; decide, fun u hu => ?_⟩, ?_, (fun z => wb (z _ (List.mem_cons_of_mem _ List.mem_cons_self))), fun H9 s9 => ⟨true, rfl, ifn rfl ⟨_, _, _, _, _, rfl, S7.trans (sQ.trans s9)⟩⟩⟩
              · rcases List.mem_cons.mp hu with rfl | hu
                · exact ⟨Int.le_refl 0, hn⟩
                · rw [List.mem_singleton.mp hu]
                  exact gb
              · show 1 + (1 + (nod 7 (SyF.tm sm (x % 4) : SyF (Sy 6)) + 0)) ≤ 3280
                omega
            · exact ⟨_, rfl, 7, (V.ref r2), (SyF.tm sm (x % 4) : SyF (Sy 6)), n, 1, rfl, by decide, n24, rb, gb, by omega, wb, fun H9 s9 => ⟨true, rfl, ifn rfl ⟨_, _, _, _, _, rfl, S7.trans s9⟩⟩⟩
      · rintro σ G ⟨w1, w2, w3, w4, w5, rfl, sG⟩
        exact q _
end
set_option maxHeartbeats 8000000 in
theorem all_mk {l : PySem.W.OpenLaw} {w : World} {K : PySem.W.Frag} {h : Heap} {mg : Str → Option Value} {fa : Addr} (X : K.In h) (G : h.Ns mainGlobals mg) (hfa : mg "law" = some (.ref fa))
    {f1 : Addr} {od1 an1 : Option Addr} {sl1 : Array (Option Value)} {oc1 kV1 dc1 pm1 cd1 ct1 : Value}
    {f2 : Addr} {od2 an2 : Option Addr} {sl2 : Array (Option Value)} {oc2 kV2 dc2 pm2 cd2 ct2 : Value}
    {f3 : Addr} {od3 an3 : Option Addr} {sl3 : Array (Option Value)} {oc3 kV3 dc3 pm3 cd3 ct3 : Value}
    {f4 : Addr} {od4 an4 : Option Addr} {sl4 : Array (Option Value)} {oc4 kV4 dc4 pm4 cd4 ct4 : Value}
    {f5 : Addr} {od5 an5 : Option Addr} {sl5 : Array (Option Value)} {oc5 kV5 dc5 pm5 cd5 ct5 : Value}
    {f6 : Addr} {od6 an6 : Option Addr} {sl6 : Array (Option Value)} {oc6 kV6 dc6 pm6 cd6 ct6 : Value}
    {f7 : Addr} {od7 an7 : Option Addr} {sl7 : Array (Option Value)} {oc7 kV7 dc7 pm7 cd7 ct7 : Value}
    {f8 : Addr} {od8 an8 : Option Addr} {sl8 : Array (Option Value)} {oc8 kV8 dc8 pm8 cd8 ct8 : Value}
    {f9 : Addr} {od9 an9 : Option Addr} {sl9 : Array (Option Value)} {oc9 kV9 dc9 pm9 cd9 ct9 : Value}
    {f10 : Addr} {od10 an10 : Option Addr} {sl10 : Array (Option Value)} {oc10 kV10 dc10 pm10 cd10 ct10 : Value}
    {f11 : Addr} {od11 an11 : Option Addr} {sl11 : Array (Option Value)} {oc11 kV11 dc11 pm11 cd11 ct11 : Value}
    {f12 : Addr} {od12 an12 : Option Addr} {sl12 : Array (Option Value)} {oc12 kV12 dc12 pm12 cd12 ct12 : Value}
    {gToneError : Addr} {gNoText : Addr} {gNoHalf : Addr} {gNoLeading : Addr} {gNoRow : Addr} {gUnknown : Addr} {eNoText : ClassData}
    (a1 : PySem.W.nsIn K mainGlobals "change_text" = some (some (.ref f1))) (l1 : K.lookup f1 = some ⟨oc1, od1, .func (PySem.W.fnOf "change_text" "change_text" (defArgs s_change_text) (defBody s_change_text) (defScope s_change_text) .none kV1 dc1 pm1 an1 cd1 ct1), sl1⟩) (c1 : PySem.W.codeIn K cd1 "change_text" = true) (k1 : PySem.W.keepIn K (.ref f1) = true)
    (a2 : PySem.W.nsIn K mainGlobals "saying_text" = some (some (.ref f2))) (l2 : K.lookup f2 = some ⟨oc2, od2, .func (PySem.W.fnOf "saying_text" "saying_text" (defArgs s_saying_text) (defBody s_saying_text) (defScope s_saying_text) .none kV2 dc2 pm2 an2 cd2 ct2), sl2⟩) (c2 : PySem.W.codeIn K cd2 "saying_text" = true) (k2 : PySem.W.keepIn K (.ref f2) = true)
    (a3 : PySem.W.nsIn K mainGlobals "_law_cell_at" = some (some (.ref f3))) (l3 : K.lookup f3 = some ⟨oc3, od3, .func (PySem.W.fnOf "_law_cell_at" "_law_cell_at" (defArgs s_l_cell_at) (defBody s_l_cell_at) (defScope s_l_cell_at) .none kV3 dc3 pm3 an3 cd3 ct3), sl3⟩) (c3 : PySem.W.codeIn K cd3 "_law_cell_at" = true) (k3 : PySem.W.keepIn K (.ref f3) = true)
    (a4 : PySem.W.nsIn K mainGlobals "_law_mixed" = some (some (.ref f4))) (l4 : K.lookup f4 = some ⟨oc4, od4, .func (PySem.W.fnOf "_law_mixed" "_law_mixed" (defArgs s_l_mixed) (defBody s_l_mixed) (defScope s_l_mixed) .none kV4 dc4 pm4 an4 cd4 ct4), sl4⟩) (c4 : PySem.W.codeIn K cd4 "_law_mixed" = true) (k4 : PySem.W.keepIn K (.ref f4) = true)
    (a5 : PySem.W.nsIn K mainGlobals "_law_wheel" = some (some (.ref f5))) (l5 : K.lookup f5 = some ⟨oc5, od5, .func (PySem.W.fnOf "_law_wheel" "_law_wheel" (defArgs s_l_wheel) (defBody s_l_wheel) (defScope s_l_wheel) .none kV5 dc5 pm5 an5 cd5 ct5), sl5⟩) (c5 : PySem.W.codeIn K cd5 "_law_wheel" = true) (k5 : PySem.W.keepIn K (.ref f5) = true)
    (a6 : PySem.W.nsIn K mainGlobals "_law_bare" = some (some (.ref f6))) (l6 : K.lookup f6 = some ⟨oc6, od6, .func (PySem.W.fnOf "_law_bare" "_law_bare" (defArgs s_l_bare) (defBody s_l_bare) (defScope s_l_bare) .none kV6 dc6 pm6 an6 cd6 ct6), sl6⟩) (c6 : PySem.W.codeIn K cd6 "_law_bare" = true) (k6 : PySem.W.keepIn K (.ref f6) = true)
    (a7 : PySem.W.nsIn K mainGlobals "_law_saying" = some (some (.ref f7))) (l7 : K.lookup f7 = some ⟨oc7, od7, .func (PySem.W.fnOf "_law_saying" "_law_saying" (defArgs s_l_saying) (defBody s_l_saying) (defScope s_l_saying) .none kV7 dc7 pm7 an7 cd7 ct7), sl7⟩) (c7 : PySem.W.codeIn K cd7 "_law_saying" = true) (k7 : PySem.W.keepIn K (.ref f7) = true)
    (a8 : PySem.W.nsIn K mainGlobals "_law_saying_row" = some (some (.ref f8))) (l8 : K.lookup f8 = some ⟨oc8, od8, .func (PySem.W.fnOf "_law_saying_row" "_law_saying_row" (defArgs s_l_saying_row) (defBody s_l_saying_row) (defScope s_l_saying_row) .none kV8 dc8 pm8 an8 cd8 ct8), sl8⟩) (c8 : PySem.W.codeIn K cd8 "_law_saying_row" = true) (k8 : PySem.W.keepIn K (.ref f8) = true)
    (a9 : PySem.W.nsIn K mainGlobals "_law_written" = some (some (.ref f9))) (l9 : K.lookup f9 = some ⟨oc9, od9, .func (PySem.W.fnOf "_law_written" "_law_written" (defArgs s_l_written) (defBody s_l_written) (defScope s_l_written) .none kV9 dc9 pm9 an9 cd9 ct9), sl9⟩) (c9 : PySem.W.codeIn K cd9 "_law_written" = true) (k9 : PySem.W.keepIn K (.ref f9) = true)
    (a10 : PySem.W.nsIn K mainGlobals "_law_refused" = some (some (.ref f10))) (l10 : K.lookup f10 = some ⟨oc10, od10, .func (PySem.W.fnOf "_law_refused" "_law_refused" (defArgs s_l_refused) (defBody s_l_refused) (defScope s_l_refused) .none kV10 dc10 pm10 an10 cd10 ct10), sl10⟩) (c10 : PySem.W.codeIn K cd10 "_law_refused" = true) (k10 : PySem.W.keepIn K (.ref f10) = true)
    (a11 : PySem.W.nsIn K mainGlobals "_law_bounds" = some (some (.ref f11))) (l11 : K.lookup f11 = some ⟨oc11, od11, .func (PySem.W.fnOf "_law_bounds" "_law_bounds" (defArgs s_l_bounds) (defBody s_l_bounds) (defScope s_l_bounds) .none kV11 dc11 pm11 an11 cd11 ct11), sl11⟩) (c11 : PySem.W.codeIn K cd11 "_law_bounds" = true) (k11 : PySem.W.keepIn K (.ref f11) = true)
    (a12 : PySem.W.nsIn K mainGlobals "law" = some (some (.ref f12))) (l12 : K.lookup f12 = some ⟨oc12, od12, .func (PySem.W.fnOf "law" "law" (defArgs s_law) (defBody s_law) (defScope s_law) .none kV12 dc12 pm12 an12 cd12 ct12), sl12⟩) (c12 : PySem.W.codeIn K cd12 "law" = true) (k12 : PySem.W.keepIn K (.ref f12) = true)
    (z_len : PySem.W.nsIn K mainGlobals "len" = some none)
    (z_max : PySem.W.nsIn K mainGlobals "max" = some none)
    (z_range : PySem.W.nsIn K mainGlobals "range" = some none)
    (z_list : PySem.W.nsIn K mainGlobals "list" = some none)
    (z_tuple : PySem.W.nsIn K mainGlobals "tuple" = some none)
    (z_str : PySem.W.nsIn K mainGlobals "str" = some none)
    (z_isinstance : PySem.W.nsIn K mainGlobals "isinstance" = some none)
    (z_ValueError : PySem.W.nsIn K mainGlobals "ValueError" = some none)
    (g1ToneError : PySem.W.nsIn K mainGlobals "ToneError" = some (some (.ref gToneError)))
    (g1NoText : PySem.W.nsIn K mainGlobals "NoText" = some (some (.ref gNoText)))
    (g1NoHalf : PySem.W.nsIn K mainGlobals "NoHalf" = some (some (.ref gNoHalf)))
    (g1NoLeading : PySem.W.nsIn K mainGlobals "NoLeading" = some (some (.ref gNoLeading)))
    (g1NoRow : PySem.W.nsIn K mainGlobals "NoRow" = some (some (.ref gNoRow)))
    (g1Unknown : PySem.W.nsIn K mainGlobals "Unknown" = some (some (.ref gUnknown)))
    (g2NoText : PySem.W.excIn K gNoText [.type "ValueError", .type "Exception", .type "BaseException", .type "object"] "ValueError.__new__" = true)
    (g3NoText : PySem.W.exmOne K (.ref gNoText) (.ref gToneError) = some true)
    (g4NoText : PySem.W.clsIn K gNoText = some eNoText)
    (g5NoText : PySem.W.findIn K (.ref gNoText) "__getattribute__" = some (some (.builtin "BaseException.__getattribute__")))
    (g6NoText : PySem.W.findIn K (.ref gNoText) "__getattr__" = some none)
    (g7NoText : PySem.W.findIn K (.ref gNoText) "__class__" = some (some (.builtin "object.__class__")))
    (g8NoText : PySem.W.specialIn K (.builtin "object.__class__") "__get__" = some (some (.builtin "getset_descriptor.__get__")))
    (g9NoText : PySem.W.takesIn K (.builtin "object.__class__") = some true)
    (h1NoText : PySem.W.mroIn K gNoText (.type "object") = some true)
    (h2NoText : PySem.W.mroIn K gNoText (.type "BaseException") = some true)
    (h3NoText : PySem.W.kitOne K (.ref gNoText) (.ref gNoText) = some true)
    (h4NoText : PySem.W.kitOne K (.ref gNoText) (.type "ValueError") = some true)
    (h5NoText : PySem.W.kitAny K (.ref gNoText) [.ref gNoHalf, .ref gNoLeading, .ref gNoRow, .ref gUnknown] = some false) :
    ∃ fd : FuncData, (∀ (s : Shared) (v : Value), BindsTo s fd ⟨[v], []⟩ [("_law_script", v)]) ∧ ∀ base : Heap, K.In base → base.Ns mainGlobals mg → FnOk l.prog w K mg base CX0 23 fa fd ["_law_script"] (sp_law w K) := by
  have e := hfa.symm.trans (PySem.W.mg_of X G a12)
  cases e
  have T : Txt K mg := ⟨PySem.W.mg_none_of X G z_len, PySem.W.mg_none_of X G z_max, PySem.W.mg_none_of X G z_range, PySem.W.mg_none_of X G z_list, PySem.W.mg_none_of X G z_tuple, PySem.W.mg_none_of X G z_str, PySem.W.mg_none_of X G z_isinstance, PySem.W.mg_none_of X G z_ValueError, ⟨_, _, _, _, _, _, PySem.W.mg_of X G g1ToneError, PySem.W.mg_of X G g1NoText, PySem.W.mg_of X G g1NoHalf, PySem.W.mg_of X G g1NoLeading, PySem.W.mg_of X G g1NoRow, PySem.W.mg_of X G g1Unknown, g1NoText, g2NoText, g3NoText, ⟨by rw [g4NoText]; rfl, g5NoText, g6NoText, g7NoText, g8NoText, g9NoText, h1NoText, h2NoText⟩, h3NoText, h4NoText, h5NoText⟩⟩
  have F1 := fun_mk (st := s_change_text) l1 c1 k1
  have F2 := fun_mk (st := s_saying_text) l2 c2 k2
  have F3 := fun_mk (st := s_l_cell_at) l3 c3 k3
  have F4 := fun_mk (st := s_l_mixed) l4 c4 k4
  have F5 := fun_mk (st := s_l_wheel) l5 c5 k5
  have F6 := fun_mk (st := s_l_bare) l6 c6 k6
  have F7 := fun_mk (st := s_l_saying) l7 c7 k7
  have F8 := fun_mk (st := s_l_saying_row) l8 c8 k8
  have F9 := fun_mk (st := s_l_written) l9 c9 k9
  have F10 := fun_mk (st := s_l_refused) l10 c10 k10
  have F11 := fun_mk (st := s_l_bounds) l11 c11 k11
  have F12 := fun_mk (st := s_law) l12 c12 k12
  refine ⟨PySem.W.fnOf "law" "law" (defArgs s_law) (defBody s_law) (defScope s_law) .none kV12 dc12 pm12 an12 cd12 ct12, fun s v => .of_eq rfl, fun base _ _ => ?_⟩
  have C_change_text : Has l.prog w K mg base 1 "change_text" ["change"] (sp_change_text w K) := ⟨_, _, ok_change_text F1 T , PySem.W.mg_of X G a1, k1, F1.binds fun _ _ _ _ _ _ us hl => match us, hl with | [_], _ => rfl⟩
  have C_saying_text : HasX l.prog w K mg base (8 * 1 + 2) "saying_text" ["saying"] (sp_saying_text (8) w K) := ⟨_, _, ok_saying_text F2 T (PySem.W.mg_of X G a2)  C_change_text 8, PySem.W.mg_of X G a2, k2, F2.binds fun _ _ _ _ _ _ us hl => match us, hl with | [_], _ => rfl⟩
  have C_l_cell_at : Has l.prog w K mg base 1 "_law_cell_at" ["_law_script", "_law_k"] (sp_l_cell_at w K) := ⟨_, _, ok_l_cell_at F3 T , PySem.W.mg_of X G a3, k3, F3.binds fun _ _ _ _ _ _ us hl => match us, hl with | [_, _], _ => rfl⟩
  have C_l_mixed : Has l.prog w K mg base 2 "_law_mixed" ["_law_script", "_law_k", "_law_salt"] (sp_l_mixed w K) := ⟨_, _, ok_l_mixed F4 T C_l_cell_at, PySem.W.mg_of X G a4, k4, F4.binds fun _ _ _ _ _ _ us hl => match us, hl with | [_, _, _], _ => rfl⟩
  have C_l_wheel : Has l.prog w K mg base 3 "_law_wheel" ["_law_script", "_law_most"] (sp_l_wheel w K) := ⟨_, _, ok_l_wheel F5 T C_l_mixed, PySem.W.mg_of X G a5, k5, F5.binds fun _ _ _ _ _ _ us hl => match us, hl with | [_, _], _ => rfl⟩
  have C_l_saying : Has l.prog w K mg base (8 * 2 + 5) "_law_saying" ["_law_script", "_law_bag", "_law_n", "_law_deep"] (sp_l_saying (8) w K) := ⟨_, _, ok_l_saying F7 T (PySem.W.mg_of X G a7) F6 (PySem.W.mg_of X G a6) C_l_mixed 8, PySem.W.mg_of X G a7, k7, F7.binds fun _ _ _ _ _ _ us hl => match us, hl with | [_, _, _, _], _ => rfl⟩
  have C_l_saying_row : Has l.prog w K mg base (8 * 1 + 2) "_law_saying_row" ["_law_saying_here"] (sp_l_saying_row (8) w K) := ⟨_, _, ok_l_saying_row F8 T (PySem.W.mg_of X G a8)   8, PySem.W.mg_of X G a8, k8, F8.binds fun _ _ _ _ _ _ us hl => match us, hl with | [_], _ => rfl⟩
  have C_l_written : Has l.prog w K mg base 11 "_law_written" ["_law_saying_here"] (sp_l_written w K) := ⟨_, _, ok_l_written F9 T C_l_saying_row C_saying_text, PySem.W.mg_of X G a9, k9, F9.binds fun _ _ _ _ _ _ us hl => match us, hl with | [_], _ => rfl⟩
  have C_l_refused : Has l.prog w K mg base 11 "_law_refused" ["_law_saying_here"] (sp_l_refused w K) := ⟨_, _, ok_l_refused F10 T C_saying_text, PySem.W.mg_of X G a10, k10, F10.binds fun _ _ _ _ _ _ us hl => match us, hl with | [_], _ => rfl⟩
  have C_l_bounds : Has l.prog w K mg base 22 "_law_bounds" ["_law_script", "_law_n"] (sp_l_bounds w K) := ⟨_, _, ok_l_bounds F11 T C_l_mixed C_l_saying C_l_written, PySem.W.mg_of X G a11, k11, F11.binds fun _ _ _ _ _ _ us hl => match us, hl with | [_, _], _ => rfl⟩
  exact ok_law F12 T C_l_bounds C_l_mixed C_l_refused C_l_saying C_l_wheel C_l_written
theorem walk {l : PySem.W.OpenLaw} {q : Program} {loose : List Str} {XP : (Str → Option Value) → Heap → Prop} {YP : World → Heap → Prop} {d : DefRec} {K : Params → PySem.W.Frag} (hn : l.most = some 63) (hdf : d.params.defaults = [])
    (hY : ∀ (w : World) (h : Heap), YP w h → (K w.params).In h)
    (F : ∀ (w : World) (mg : Str → Option Value) (fa : Addr) (h : Heap), (K w.params).In h → h.Ns mainGlobals mg → mg d.name = some (.ref fa) →
      ∃ fd : FuncData, (∀ (s : Shared) (u : Value), BindsTo s fd ⟨[u], []⟩ [("_law_script", u)]) ∧ ∀ base : Heap, (K w.params).In base → base.Ns mainGlobals mg → FnOk l.prog w (K w.params) mg base CX0 23 fa fd ["_law_script"] (sp_law w (K w.params))) :
    PySem.W.WalkO q loose XP YP l.row.toRowW d [] (fun f vs => PySem.call f vs) :=
  L2.walk_of (n := 63) (k := 23) (x := "_law_script") (CX := fun _ => CX0) (sp := fun w => sp_law w (K w.params)) hn (by decide) hdf ⟨rfl, by decide, by decide⟩ hY F (fun _ _ a ns hl _ hS => ⟨a, ns, rfl, hS, hl, fun _ => rfl⟩) fun _ _ _ _ _ z => z
end My
open PySem PySem.W PyProof.Rows
set_option maxRecDepth 100000 in
set_option maxHeartbeats 0 in
theorem PySem.Challenge.cw_tonemirror_k45_sayings_written_holds : PySem.Challenge.rw_tonemirror_k45_sayings_written.Holds := by
  w_on; o_law; k_head; (case hw => w_witness2)
  k_fill
  refine My.walk (l := PySem.Challenge.rw_tonemirror_k45_sayings_written) rfl rfl (fun w h Y => PySem.W.kIn_of Y) ?F
  case F =>
    intro w mg fa h KX G hmg
    refine' My.all_mk KX G hmg ?a1 ?l1 ?c1 ?k1 ?a2 ?l2 ?c2 ?k2 ?a3 ?l3 ?c3 ?k3 ?a4 ?l4 ?c4 ?k4 ?a5 ?l5 ?c5 ?k5 ?a6 ?l6 ?c6 ?k6 ?a7 ?l7 ?c7 ?k7 ?a8 ?l8 ?c8 ?k8 ?a9 ?l9 ?c9 ?k9 ?a10 ?l10 ?c10 ?k10 ?a11 ?l11 ?c11 ?k11 ?a12 ?l12 ?c12 ?k12 ?z_len ?z_max ?z_range ?z_list ?z_tuple ?z_str ?z_isinstance ?z_ValueError ?g1ToneError ?g1NoText ?g1NoHalf ?g1NoLeading ?g1NoRow ?g1Unknown ?g2NoText ?g3NoText ?g4NoText ?g5NoText ?g6NoText ?g7NoText ?g8NoText ?g9NoText ?h1NoText ?h2NoText ?h3NoText ?h4NoText ?h5NoText
    (case a1 => k_is); (case l1 => k_is); (case c1 => k_is); (case k1 => k_is)
    (case a2 => k_is); (case l2 => k_is); (case c2 => k_is); (case k2 => k_is)
    (case a3 => k_is); (case l3 => k_is); (case c3 => k_is); (case k3 => k_is)
    (case a4 => k_is); (case l4 => k_is); (case c4 => k_is); (case k4 => k_is)
    (case a5 => k_is); (case l5 => k_is); (case c5 => k_is); (case k5 => k_is)
    (case a6 => k_is); (case l6 => k_is); (case c6 => k_is); (case k6 => k_is)
    (case a7 => k_is); (case l7 => k_is); (case c7 => k_is); (case k7 => k_is)
    (case a8 => k_is); (case l8 => k_is); (case c8 => k_is); (case k8 => k_is)
    (case a9 => k_is); (case l9 => k_is); (case c9 => k_is); (case k9 => k_is)
    (case a10 => k_is); (case l10 => k_is); (case c10 => k_is); (case k10 => k_is)
    (case a11 => k_is); (case l11 => k_is); (case c11 => k_is); (case k11 => k_is)
    (case a12 => k_is); (case l12 => k_is); (case c12 => k_is); (case k12 => k_is)
    (case z_len => k_is)
    (case z_max => k_is)
    (case z_range => k_is)
    (case z_list => k_is)
    (case z_tuple => k_is)
    (case z_str => k_is)
    (case z_isinstance => k_is)
    (case z_ValueError => k_is)
    (case g1ToneError => k_is)
    (case g1NoText => k_is)
    (case g1NoHalf => k_is)
    (case g1NoLeading => k_is)
    (case g1NoRow => k_is)
    (case g1Unknown => k_is)
    (case g2NoText => k_exc)
    (case g3NoText => kts_exm)
    (case g4NoText => k_is)
    (case g5NoText => k_is)
    (case g6NoText => k_is)
    (case g7NoText => k_is)
    (case g8NoText => k_is)
    (case g9NoText => k_is)
    (case h1NoText => k_is)
    (case h2NoText => k_is)
    (case h3NoText => kit_is)
    (case h4NoText => kit_is)
    (case h5NoText => kit_is)
