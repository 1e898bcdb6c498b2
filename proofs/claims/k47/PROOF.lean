import PyProof.Rows.All
import Wide.All
import OpenK.AllK
import Wide.FinOn
import Lean
import PyProof.EqAt
import PyProof.EqKinds
import PyProof.TupleCall
import PyProof.Rows.SetFrom
import PyProof.ListRange
import PyProof.Rows.SortWalk
import PyProof.TupleOfStr
import PyProof.CollectStr
import KE.KRevIter
import PyProof.EnumMake
import PyProof.Rows.EnumRows
import PyProof.Rows.SumAny
import PyProof.Draws
import KE.KSortTup
import KE.KLcPair
import PyProof.Rows.TupDisplay
import PyProof.Rows.TupTab
import PyProof.ZipIter
import PyProof.CollectWalk
import PyProof.Rows.CallKwBuiltin
import PyProof.DictWalks
import PyProof.FString5
import PyProof.AttrMiss
import KE.KDictOf
import PyProof.DictItems
import PyProof.MeetsIn
import KE.KPairComp
import OpenK.KOwn
import KE.KTryMore
import PyProof.RulesAs
import KE.KIsAll
import PyProof.ExcArgsOwn
import KE.RegKTryMore
import KE.RegKIsAll
import PyProof.FString5
import PyProof.Rows.StrJoinMade
import PyProof.DictTable
import PyProof.FitsReplace
import PyProof.DictUpdate
import PyProof.MinMaxWalk
import PyProof.Rows.StrKeys3
import PyProof.StrCalls2
import PyProof.StrLawsTight
import PyProof.StrLawsChain
import PyProof.StrLawsJoin
import PyProof.Rows.RuleN_abs
import PyProof.Rows.SeqGen
import PyProof.StrOps2
import PyProof.StrLawsRepr
import PyProof.StrLawsIn
import PyProof.MinMaxWalk
import PyProof.Rows.CallKwBuiltin
import PyProof.NeKinds
import PySem.Challenge.RW_tonemirror_k47_any_saying_text
set_option Elab.async false
set_option linter.all false
set_option maxRecDepth 100000
namespace L2
open PySem PySem.Spec PyProof.Rows

/-- a key: an int or a str -/
abbrev Key := Sum Int Str
def keyIs : Key → Value → Bool
  | .inl k, v => Value.isInt k v
  | .inr x, v => Value.isStrOf x v
def keyH (w : World) : Key → Int
  | .inl k => hashInt k
  | .inr x => hashStr w x
theorem keyIs_shape : ∀ {k : Key} {v : Value}, keyIs k v = true → (∃ i t, k = Sum.inl i ∧ v = Value.int i t) ∨ (∃ x t, k = Sum.inr x ∧ v = Value.str x t)
  | .inl i, v, h => by
    obtain ⟨t, e⟩ := Value.isInt_shape (k := i) (v := v) h
    exact .inl ⟨i, t, rfl, e⟩
  | .inr x, v, h => by
    obtain ⟨t, e⟩ := Value.isStrOf_shape (x := x) (v := v) h
    exact .inr ⟨x, t, rfl, e⟩
theorem keyIs_int (i : Int) (t : Tok) : keyIs (.inl i) (.int i t) = true := by simp [keyIs, Value.isInt]
theorem keyIs_str (x : Str) (t : Tok) : keyIs (.inr x) (.str x t) = true := by simp [keyIs, Value.isStrOf]
theorem key_ll (a b : Int) : decide ((Sum.inl a : Key) = Sum.inl b) = (a == b) := by
  by_cases e : a = b
  · subst e; simp
  · have h : ¬ (Sum.inl a : Key) = Sum.inl b := fun q => e (Sum.inl.inj q)
    rw [decide_eq_false h]
    exact (beq_eq_false_iff_ne.mpr e).symm
theorem key_rr (a b : Str) : decide ((Sum.inr a : Key) = Sum.inr b) = decide (a = b) := by
  by_cases e : a = b
  · subst e; simp
  · have h : ¬ (Sum.inr a : Key) = Sum.inr b := fun q => e (Sum.inr.inj q)
    rw [decide_eq_false h, decide_eq_false e]
theorem key_lr (a : Int) (b : Str) : decide ((Sum.inl a : Key) = Sum.inr b) = false := decide_eq_false (fun q => nomatch q)
theorem key_rl (a : Str) (b : Int) : decide ((Sum.inr a : Key) = Sum.inl b) = false := decide_eq_false (fun q => nomatch q)

def mixKind (prog : Program) (w : World) : PySem.KeyKind prog w Key where
  is := keyIs
  hash := keyH w
  inj := fun v a b ha hb => by
    rcases keyIs_shape ha with ⟨i, t, rfl, rfl⟩ | ⟨x, t, rfl, rfl⟩
    · rcases keyIs_shape hb with ⟨j, u, rfl, e⟩ | ⟨y, u, rfl, e⟩
      · injection e with e1 _; rw [e1]
      · exact nomatch e
    · rcases keyIs_shape hb with ⟨j, u, rfl, e⟩ | ⟨y, u, rfl, e⟩
      · exact nomatch e
      · injection e with e1 _; rw [e1]
  byValue := fun k v h => by
    rcases keyIs_shape h with ⟨i, t, rfl, rfl⟩ | ⟨x, t, rfl, rfl⟩ <;> rfl
  pyHash := fun hv h => by
    rcases keyIs_shape hv with ⟨i, t, rfl, rfl⟩ | ⟨x, t, rfl, rfl⟩
    · exact wpAny_pyHash_int h
    · exact wpAny_pyHash_str h
  eqBool := fun hu hv h => by
    rcases keyIs_shape hu with ⟨i, t, rfl, rfl⟩ | ⟨x, t, rfl, rfl⟩
    · rcases keyIs_shape hv with ⟨j, u, rfl, rfl⟩ | ⟨y, u, rfl, rfl⟩
      · rw [key_ll] at h; exact wpAny_eqBool_int h
      · rw [key_lr] at h; exact SeqAt.EqAt.int_str i t y u _ _ _ _ h
    · rcases keyIs_shape hv with ⟨j, u, rfl, rfl⟩ | ⟨y, u, rfl, rfl⟩
      · rw [key_rl] at h; exact SeqAt.EqAt.str_int x t j u _ _ _ _ h
      · rw [key_rr] at h; exact wpAny_eqBool_str h
  «strs» := fun k x t v h => by
    rcases keyIs_shape h with ⟨i, u, rfl, e⟩ | ⟨y, u, rfl, e⟩
    · exact nomatch e
    · injection e with e1 _
      subst e1
      cases v <;> rfl

theorem mixKind_int (prog : Program) (w : World) (i : Int) (t : Tok) : (mixKind prog w).is (.inl i) (.int i t) = true := keyIs_int i t
theorem mixKind_str (prog : Program) (w : World) (x : Str) (t : Tok) : (mixKind prog w).is (.inr x) (.str x t) = true := keyIs_str x t
end L2

namespace L2
open PySem PySem.Spec PyProof.Rows

/-- a value, without the heap -/
inductive V where
  | non | bl (b : Bool) | int (i : Int) | str (x : Str) | byt (b : Array UInt8) | flt (b : UInt64) | ref (a : Addr) | ty (n : String)
  deriving DecidableEq

def RelV : V → Value → Prop
  | .non, u => u = Value.none
  | .bl b, u => u = Value.bool b
  | .int i, u => ∃ t, u = Value.int i t
  | .str x, u => ∃ t, u = Value.str x t
  | .byt b, u => ∃ t, u = Value.bytes b t
  | .flt b, u => ∃ t, u = Value.float b t
  | .ref a, u => u = Value.ref a
  | .ty n, u => u = Value.type n

abbrev Vals : List V → List Value → Prop := Paired RelV
theorem Vals.length {xs : List V} {us : List Value} (r : Vals xs us) : xs.length = us.length := Paired.length r
theorem Vals.get : ∀ {xs : List V} {us : List Value} {i : Nat} {x : V}, Vals xs us → xs[i]? = some x → ∃ u, us[i]? = some u ∧ RelV x u
  | _, _, _, _, .nil, e => by simp at e
  | _, _, 0, _, .cons r _, e => by simp at e; subst e; exact ⟨_, rfl, r⟩
  | _, _, i + 1, x, .cons _ t, e => by
    obtain ⟨u, h1, h2⟩ := Vals.get (i := i) (x := x) t (by simpa using e)
    exact ⟨u, by simpa using h1, h2⟩
theorem Vals.set {x : V} {u : Value} (r : RelV x u) : ∀ {xs : List V} {us : List Value} (i : Nat), Vals xs us → Vals (xs.set i x) (us.set i u)
  | _, _, _, .nil => .nil
  | _, _, 0, .cons _ t => .cons r t
  | _, _, i + 1, .cons q t => .cons q (Vals.set r i t)
theorem Vals.append : ∀ {xs ys : List V} {us ws : List Value}, Vals xs us → Vals ys ws → Vals (xs ++ ys) (us ++ ws)
  | _, _, _, _, .nil, s => s
  | _, _, _, _, .cons r t, s => .cons r (Vals.append t s)
def RelO : Option V → Option Value → Prop
  | some v, some u => RelV v u
  | none, none => True
  | _, _ => False
def KV {κ : Type} : List (κ × V) → List (κ × Value) → Prop := Paired fun (p : κ × V) (q : κ × Value) => p.1 = q.1 ∧ RelV p.2 q.2

/-- a key of a dict (00_mix): an int or a text -/
def kV : Key → V
  | .inl i => .int i
  | .inr x => .str x

/-- what stands at a tracked address -/
inductive HO where
  /-- a list -/
  | lst (xs : List V)
  /-- a tuple (never changes) -/
  | tup (xs : List V)
  /-- a dict whose keys are ints and texts; one whose keys are tuples of ints and texts (the empty one is both) -/
  | dK (kvs : List (Key × V)) | dT (kvs : List (List Key × V))
  /-- a set of ints: its members, its size -/
  | set (S : Int → Bool) (n : Nat)
  /-- an instance of the class at C, its dict at dx, its attributes -/
  | ins (C dx : Addr) (fs : List (Str × V))
  /-- the dict of the instance at x -/
  | own (x : Addr)
  /-- the dict of an exception -/
  | xd (fs : List (Str × V))
  /-- a bound method, f of x -/
  | met (f x : Addr)
  /-- a range object lo, lo + 1, .. below hi -/
  | rng (lo hi : Int)
  /-- a thing that is known to the object (the script; a dict while a loop walks it): read, never written while it is so -/
  | frz (o : Obj) (u : HO)
  /-- a code object's table -/
  | tbl (ps : Array Value)
  /-- any other thing, by what is true of its one object (a def of one's own: SetO a S n := HO.ext fun h => ..) -/
  | ext (φ : Heap → Prop)

abbrev Hp := Addr → Option HO
def upd (H : Hp) (a : Addr) (o : HO) : Hp := fun b => if b = a then some o else H b
theorem upd_same {H : Hp} {a : Addr} {o : HO} : upd H a o a = some o := by unfold upd; rw [if_pos rfl]
theorem upd_ne {H : Hp} {a b : Addr} {o : HO} (h : b ≠ a) : upd H a o b = H b := by unfold upd; rw [if_neg h]
theorem ne_of_none {H : Hp} {a b : Addr} {o : HO} (h : H a = some o) (h' : H b = none) : a ≠ b := by
  intro e; subst e; rw [h] at h'; cases h'

section
variable (P : Program) (w : World)
def ObjOk (H : Hp) (h : Heap) (a : Addr) : HO → Prop
  | .lst xs => xs.length ≤ sizeLine ∧ ∃ (its : List Value) (n : Nat), Vals xs its ∧ h.get? a = some { cls := .type "list", data := .seq its.toArray n }
  | .tup xs => xs.length ≤ sizeLine ∧ ∃ its : List Value, Vals xs its ∧ IsTup h a its.toArray
  | .dK kvs => kvs.length ≤ sizeLine ∧ (a == sysModules) = false ∧ ∃ vs, KV kvs vs ∧ h.DictOf (mixKind P w) a vs
  | .dT kvs => kvs.length ≤ sizeLine ∧ (a == sysModules) = false ∧ ∃ xs : List (List Key × Addr × Value),
      Paired (fun (p : List Key × V) (q : List Key × Addr × Value) => p.1 = q.1 ∧ H q.2.1 = some (.tup (p.1.map kV)) ∧ RelV p.2 q.2.2) kvs xs ∧
      ∃ o es ep, h.get? a = some o ∧ o.ExactDict ∧ o.data = .dict es ep ∧ es.toList = xs.map (entryOfKey (tupleKind (mixKind P w))) ∧ (xs.map (·.1)).Nodup
  | .set S n => h.SetOf (intKind P w) a S n
  | .ins C dx fs => H dx = some (.own a) ∧ fs.length ≤ 1000 ∧ dx ≠ a ∧ h.get? a = some (PySem.W.instObj C dx) ∧
      ∃ mA, h.Ns1 dx mA ∧ (∀ f, RelO (fs.lookup f) (mA f)) ∧ PySem.Within mA (fs.map (·.1))
  | .own _ => ∃ o, h.get? a = some o
  | .xd fs => ∃ mA, h.Ns1 a mA ∧ ∀ f, RelO (fs.lookup f) (mA f)
  | .rng lo hi => ∃ t u v, h.get? a = some { cls := .type "range", data := .fields #[.int lo t, .int hi u, .int 1 v] }
  | .frz o u => h.get? a = some o ∧ ObjOk H h a u
  | .tbl ps => h.get? a = some { cls := .none, data := .fields ps }
  | .met f x => h.get? a = some (PySem.W.methodObj (.ref f) (.ref x))
  | .ext φ => φ h ∧ (∃ o, h.get? a = some o) ∧ ∀ h1 h2 : Heap, φ h1 → (∀ o, h1.get? a = some o → h2.get? a = some o) → φ h2
/-- the abstract heap is held -/
def HOk (H : Hp) (h : Heap) : Prop := ∀ a o, H a = some o → ObjOk P w H h a o
end

section
variable {P : Program} {w : World} {H H' : Hp} {h h' : Heap} {a : Addr} {o : HO}
theorem ObjOk.lt (x : ObjOk P w H h a o) : a < h.objs.size := by
  cases o with
  | lst xs => obtain ⟨_, _, _, _, e⟩ := x; exact Heap.lt_size e
  | tup xs => obtain ⟨_, _, _, p⟩ := x; exact p.lt
  | dK kvs => obtain ⟨_, _, _, _, o, _, _, e, _⟩ := x; exact Heap.lt_size e
  | dT kvs => obtain ⟨_, _, _, _, o, _, _, e, _⟩ := x; exact Heap.lt_size e
  | set S n => obtain ⟨o, _, _, _, e, _⟩ := x; exact Heap.lt_size e
  | ins C dx fs => obtain ⟨_, _, _, e, _⟩ := x; exact Heap.lt_size e
  | own y => obtain ⟨_, e⟩ := x; exact Heap.lt_size e
  | xd fs => obtain ⟨_, ⟨_, _, _, e, _⟩, _⟩ := x; exact Heap.lt_size e
  | rng lo hi => obtain ⟨_, _, _, e⟩ := x; exact Heap.lt_size e
  | frz ob u => obtain ⟨e, _⟩ := x; exact Heap.lt_size e
  | tbl ps => exact Heap.lt_size (show h.get? a = some _ from x)
  | met f y => exact Heap.lt_size (show h.get? a = some _ from x)
  | ext φ => obtain ⟨_, ⟨_, e⟩, _⟩ := x; exact Heap.lt_size e
theorem Paired.mapP {α β : Type} {F G : α → β → Prop} : ∀ {l₁ : List α} {l₂ : List β}, Paired F l₁ l₂ → (∀ a b, F a b → G a b) → Paired G l₁ l₂
  | _, _, .nil, _ => .nil
  | _, _, .cons r t, f => .cons (f _ _ r) (Paired.mapP t f)
/-- what an object's description leans on: its own object, its own dict, the tuples -/
theorem ObjOk.stay (x : ObjOk P w H h a o) (k : ∀ b u, (b = a ∨ H b = some (.own a)) → h.get? b = some u → h'.get? b = some u)
    (ho : ∀ b, H b = some (.own a) → H' b = some (.own a)) (ht : ∀ b xs, H b = some (.tup xs) → H' b = some (.tup xs)) : ObjOk P w H' h' a o := by
  induction o with
  | lst xs => obtain ⟨z, its, n, r, e⟩ := x; exact ⟨z, its, n, r, k _ _ (.inl rfl) e⟩
  | tup xs => obtain ⟨z, its, r, ob, e, c⟩ := x; exact ⟨z, its, r, ob, k _ _ (.inl rfl) e, c⟩
  | dK kvs => obtain ⟨z, y, vs, r, ob, es, ep, e, c⟩ := x; exact ⟨z, y, vs, r, ob, es, ep, k _ _ (.inl rfl) e, c⟩
  | dT kvs =>
    obtain ⟨z, y, xs, r, ob, es, ep, e, c⟩ := x
    exact ⟨z, y, xs, Paired.mapP r fun p q z => ⟨z.1, ht _ _ z.2.1, z.2.2⟩, ob, es, ep, k _ _ (.inl rfl) e, c⟩
  | set S n => obtain ⟨ob, es, ep, t, e, c⟩ := x; exact ⟨ob, es, ep, t, k _ _ (.inl rfl) e, c⟩
  | ins C dx fs =>
    obtain ⟨d, z, ne, e, mA, ⟨od, es, ep, e2, c⟩, r⟩ := x
    exact ⟨ho _ d, z, ne, k _ _ (.inl rfl) e, mA, ⟨od, es, ep, k _ _ (.inr d) e2, c⟩, r⟩
  | own y => obtain ⟨ob, e⟩ := x; exact ⟨ob, k _ _ (.inl rfl) e⟩
  | xd fs => obtain ⟨mA, ⟨od, es, ep, e, c⟩, r⟩ := x; exact ⟨mA, ⟨od, es, ep, k _ _ (.inl rfl) e, c⟩, r⟩
  | rng lo hi => obtain ⟨t, u, v, e⟩ := x; exact ⟨t, u, v, k _ _ (.inl rfl) e⟩
  | frz ob u ih => obtain ⟨e, q⟩ := x; exact ⟨k _ _ (.inl rfl) e, ih q⟩
  | tbl ps =>
    have e : h.get? a = some { cls := .none, data := .fields ps } := x
    show h'.get? a = some { cls := .none, data := .fields ps }
    exact k a _ (.inl rfl) e
  | met f y =>
    have e : h.get? a = some (PySem.W.methodObj (.ref f) (.ref y)) := x
    show h'.get? a = some (PySem.W.methodObj (.ref f) (.ref y))
    exact k a _ (.inl rfl) e
  | ext φ => obtain ⟨p, ⟨o, e⟩, st⟩ := x; exact ⟨st _ _ p fun o q => k _ _ (.inl rfl) q, ⟨o, k _ _ (.inl rfl) e⟩, st⟩
theorem HOk.lt (x : HOk P w H h) (e : H a = some o) : a < h.objs.size := (x a o e).lt
theorem HOk.fresh (x : HOk P w H h) (e : h.objs.size ≤ a) : H a = none := by
  cases q : H a with
  | none => rfl
  | some u => exact absurd (Nat.lt_of_lt_of_le (x.lt q) e) (Nat.lt_irrefl _)
/-- every object of the heap is kept -/
theorem HOk.kept (x : HOk P w H h) (k : ∀ b u, h.get? b = some u → h'.get? b = some u) : HOk P w H h' := fun a o e =>
  (x a o e).stay (fun b u _ q => k b u q) (fun _ q => q) fun _ _ q => q
/-- a new object is laid and tracked -/
theorem HOk.laid (x : HOk P w H h) (k : ∀ b u, h.get? b = some u → h'.get? b = some u) (hp : h.objs.size ≤ a) (new : ObjOk P w (upd H a o) h' a o) : HOk P w (upd H a o) h' := fun b u e => by
  have hn := x.fresh hp
  by_cases hb : b = a
  · subst hb; rw [upd_same] at e; cases e; exact new
  · rw [upd_ne hb] at e
    exact (x b u e).stay (fun c v _ q => k c v q) (fun c q => by rw [upd_ne (ne_of_none q hn)]; exact q) fun c xs q => by rw [upd_ne (ne_of_none q hn)]; exact q
end

/-- what may be read as u: it is u, or a known u -/
def Rd (H : Hp) (a : Addr) (u : HO) : Prop := H a = some u ∨ ∃ o, H a = some (.frz o u)
theorem Rd.ok {P : Program} {w : World} {H : Hp} {h : Heap} {a : Addr} {u : HO} (r : Rd H a u) (x : HOk P w H h) : ObjOk P w H h a u := by
  rcases r with r | ⟨o, r⟩
  · exact x a u r
  · obtain ⟨_, q⟩ := x a _ r
    exact q
/-- what may be written -/
def Mut : Option HO → Prop
  | some (.lst _) => True
  | some (.dK _) => True
  | some (.dT _) => True
  | some (.set _ _) => True
  | some (.ins _ _ _) => True
  | some (.ext _) => True
  | _ => False
section
variable {P : Program} {w : World} {H : Hp} {h h' : Heap} {x e : Addr} {o' : HO}
/-- the object at e is changed: x itself, or the dict of the instance x -/
theorem HOk.write (ok : HOk P w H h) (mu : Mut (H x)) (he : e = x ∨ H e = some (.own x)) (k : ∀ b u, b ≠ e → h.get? b = some u → h'.get? b = some u) (heo : ∃ u, h'.get? e = some u)
    (new : ObjOk P w (upd H x o') h' x o') : HOk P w (upd H x o') h' := fun b u q => by
  have nown : ∀ c y, H c = some (.own y) → c ≠ x := fun c y r z => by subst z; rw [r] at mu; exact mu
  have ntup : ∀ c xs, H c = some (.tup xs) → c ≠ x := fun c xs r z => by subst z; rw [r] at mu; exact mu
  by_cases hb : b = x
  · subst hb; rw [upd_same] at q; cases q; exact new
  · rw [upd_ne hb] at q
    by_cases hbe : b = e
    · have q' : H b = some (.own x) := by
        rcases he with z | z
        · exact absurd (hbe.trans z) hb
        · rw [hbe]; exact z
      rw [q] at q'; cases q'
      obtain ⟨v, hv⟩ := heo
      exact ⟨v, by rw [hbe]; exact hv⟩
    · refine (ok b u q).stay (fun c v hc r => k c v ?_ r) (fun c r => by rw [upd_ne (nown c b r)]; exact r) fun c xs r => by rw [upd_ne (ntup c xs r)]; exact r
      rcases hc with rfl | hc
      · exact hbe
      · rintro rfl
        rcases he with z | z
        · exact nown c b hc z
        · rw [hc] at z; cases z; exact hb rfl
end

structure Un (fs ex : List Addr) (H H' : Hp) (h h' : Heap) : Prop where
  keep : ∀ b o, h.get? b = some o → H b = none → b ∉ fs → b ∉ ex → h'.get? b = some o
  slot : ∀ b o, h.get? b = some o → H b = none → b ∈ fs → b ∉ ex → ∃ sl, h'.get? b = some { o with slots := sl }
  free : ∀ b o, h.get? b = some o → H b = none → b ∉ ex → H' b = none
  there : ∀ b o, h.get? b = some o → b ∉ ex → ∃ o', h'.get? b = some o'
  tups : ∀ b xs, H b = some (.tup xs) → H' b = some (.tup xs)
  frzs : ∀ b o u, H b = some (.frz o u) → H' b = some (.frz o u)
  tbls : ∀ b ps, H b = some (.tbl ps) → ∃ more, H' b = some (.tbl (ps ++ more))
section
variable {fs fs' ex ex' : List Addr} {H H1 H2 : Hp} {h h1 h2 h' : Heap} {a x e : Addr} {o : HO}
theorem Un.any (u : Un fs ex H H1 h h1) {b : Addr} {ob : Obj} (q : h.get? b = some ob) (n : H b = none) (hx : b ∉ ex) : ∃ sl, h1.get? b = some { ob with slots := sl } := by
  by_cases hb : b ∈ fs
  · exact u.slot b ob q n hb hx
  · exact ⟨ob.slots, u.keep b ob q n hb hx⟩
theorem Un.kept (k : ∀ b u, h.get? b = some u → h'.get? b = some u) : Un fs ex H H h h' :=
  ⟨fun b ob q _ _ _ => k b ob q, fun b ob q _ _ _ => ⟨ob.slots, k b ob q⟩, fun _ _ _ n _ => n, fun b ob q _ => ⟨ob, k b ob q⟩, fun _ _ q => q, fun _ _ _ q => q, fun _ ps q => ⟨#[], by rw [q]; simp⟩⟩
theorem Un.refl : Un fs ex H H h h := Un.kept fun _ _ q => q
theorem Un.laid (k : ∀ b u, h.get? b = some u → h'.get? b = some u) (hp : h.objs.size ≤ a) (hn : H a = none) : Un fs ex H (upd H a o) h h' where
  keep := fun b u q _ _ _ => k b u q
  slot := fun b u q _ _ _ => ⟨u.slots, k b u q⟩
  free := fun b u q n _ => by rw [upd_ne (Nat.ne_of_lt (Nat.lt_of_lt_of_le (Heap.lt_size q) hp))]; exact n
  there := fun b u q _ => ⟨u, k b u q⟩
  tups := fun b xs q => by rw [upd_ne (ne_of_none q hn)]; exact q
  frzs := fun b u xs q => by rw [upd_ne (ne_of_none q hn)]; exact q
  tbls := fun b ps q => ⟨#[], by rw [upd_ne (ne_of_none q hn), q]; simp⟩
theorem Un.write (mu : Mut (H x)) (he : e = x ∨ H e = some (.own x)) (k : ∀ b u, b ≠ e → h.get? b = some u → h'.get? b = some u) (heo : ∃ u, h'.get? e = some u) : Un fs ex H (upd H x o) h h' := by
  have hx : ∀ b, H b = none → b ≠ x := fun b n z => by subst z; rw [n] at mu; exact mu
  have hb : ∀ b, H b = none → b ≠ e := fun b n z => by
    subst z
    rcases he with r | r
    · exact hx b n r
    · rw [n] at r; cases r
  have hm : ∀ b u, H b = some u → ¬ Mut (some u) → b ≠ x := fun b u q nm z => by subst z; rw [q] at mu; exact nm mu
  refine ⟨fun b u q n _ _ => k b u (hb b n) q, fun b u q n _ _ => ⟨u.slots, k b u (hb b n) q⟩, fun b u q n _ => by rw [upd_ne (hx b n)]; exact n, fun b u q _ => ?_,
    fun b xs q => by rw [upd_ne (hm b _ q fun z => z)]; exact q, fun b u xs q => by rw [upd_ne (hm b _ q fun z => z)]; exact q, fun b ps q => ⟨#[], by rw [upd_ne (hm b _ q fun z => z), q]; simp⟩⟩
  by_cases hbe : b = e
  · subst hbe; exact heo
  · exact ⟨u, k b u hbe q⟩
end

def trk (h : Heap) (H : Hp) : List Addr := (List.range h.objs.size).filter fun a => (H a).isSome
def hidT (h : Heap) (H : Hp) : Heap := PySem.W.hideAll h (trk h H)
theorem hidT_size (h : Heap) (H : Hp) : (hidT h H).objs.size = h.objs.size := PySem.W.hideAll_size _ _
theorem hidT_get {h : Heap} {H : Hp} {b : Addr} {o : Obj} (e : h.get? b = some o) (n : H b = none) : (hidT h H).get? b = some o :=
  PySem.W.hideAll_get _ e fun hm => by
    have q : (H b).isSome = true := (List.mem_filter.mp hm).2
    rw [n] at q; simp at q
theorem of_hidT {h : Heap} {H : Hp} {b : Addr} {o : Obj} (e : (hidT h H).get? b = some o) : h.get? b = some o ∧ H b = none := by
  have e' : h.get? b = some o := PySem.W.of_hideAll (trk h H) e
  refine ⟨e', ?_⟩
  cases q : H b with
  | none => rfl
  | some x =>
    have hm : b ∈ trk h H := List.mem_filter.mpr ⟨List.mem_range.mpr (Heap.lt_size e'), by simp [q]⟩
    have z : (hidT h H).get? b = none := PySem.W.hideAll_none (trk h H) hm
    rw [z] at e; cases e

end L2

namespace L2
open PySem PySem.Spec PyProof.Rows

/-- the module's facts, over the base: the heap at the law's entry without what is tracked there -/
structure Mod (K : PySem.W.Frag) (mg : Str → Option Value) (base : Heap) : Prop where
  kin : K.In base
  glob : base.Ns mainGlobals mg
  blt : ∃ mb, base.Ns builtinsNs mb ∧ ∀ x : Str, x ≠ "__name__" → mb x = bootBuiltins x
  nolimit : base.NoLimit

/-- the context: a def's body (or a comprehension's block) running. base: fixed through the whole law; s₀, H₀: the entry; outer: the frames whose slots others may change (a def's callers); stack: all frames that run;
   ex: iterators that were made ahead of the entry and are walked here (a comprehension's); fn: the names whose cells were made at the entry (a def: all; a comprehension's block: its own); calm: not within an except suite; pn: pins that every state bears; xe: what is wanted of an exception that leaves the code -/
structure Cx where
  prog : Program
  w : World
  K : PySem.W.Frag
  mg : Str → Option Value
  base : Heap
  A : Around
  N : List Str
  s₀ : Shared
  H₀ : Hp
  env : Env
  outer : List Env
  stack : List Env
  ex : List Addr
  fn : Str → Bool
  calm : Bool
  pn : List (Addr × Obj)
  xe : Value → Shared → Prop
/-- the callers' frames -/
def frs (l : List Env) : List Addr := l.filterMap (·.frame)
abbrev Cx.fs (X : Cx) : List Addr := frs X.outer

def Vis (sc : Scope) (x : Str) : Prop := sc.names.lookup x = some .local ∨ sc.names.lookup x = some .cell ∨ sc.names.lookup x = some .free
def Loc (sc : Scope) (x : Str) : Prop := sc.names.lookup x = some .local ∨ sc.names.lookup x = some .cell
def Look (env : Env) (h : Heap) (m : Str → Option Value) (x : Str) (u : Value) : Prop :=
  (env.kindOf x = some .local ∧ m x = some u) ∨ ((env.kindOf x = some .cell ∨ env.kindOf x = some .free) ∧ ∃ c, env.cells.lookup x = some c ∧ h.IsCell c (some u))

structure Cx.Ok (X : Cx) : Prop where
  mod : Mod X.K X.mg X.base
  kind : X.env.scope.kind = .function
  glob : X.env.globals = mainGlobals
  blt : X.env.builtins = builtinsNs
  above : X.s₀.heap.objs.size ≤ X.env.locals
  inj : ∀ x y c, X.env.cells.lookup x = some c → X.env.cells.lookup y = some c → x = y
  has : ∀ x, (X.env.kindOf x = some .cell ∨ X.env.kindOf x = some .free) → ∃ c, X.env.cells.lookup x = some c
  cab : ∀ x c, X.fn x = true → X.env.cells.lookup x = some c → X.s₀.heap.objs.size ≤ c
  hd : X.calm = true → X.A.handled = none
  frames : X.A.frames = some X.stack
  stk : X.stack = X.outer ∨ (X.stack = X.env :: X.outer ∧ X.env.frame = some X.env.locals)
  exf : ∀ b ∈ X.ex, b ≠ X.env.locals ∧ ∀ x c, X.env.cells.lookup x = some c → c ≠ b
  bs : ∀ b o, X.base.get? b = some o → X.s₀.heap.get? b = some o ∧ X.H₀ b = none
  bsz : X.base.objs.size ≤ X.s₀.heap.objs.size
  noex : ∀ b o, X.base.get? b = some o → b ∉ X.ex
  exfs : ∀ b ∈ X.ex, b ∉ X.fs
  funs : X.s₀.heap.FunFrames X.base X.outer
  frf : ∀ b ∈ X.fs, X.H₀ b = none

structure Inv (X : Cx) (pins : List (Addr × Obj)) (σ : List (Option V)) (H : Hp) (s : Shared) : Prop where
  ok : X.Ok
  os : s.os = X.s₀.os
  bare : AllBare s.gens
  base : Un X.fs X.ex X.H₀ H X.s₀.heap s.heap
  loc : ∃ m, s.heap.Ns X.env.locals m ∧ ∀ (i : Nat) (x : Str) (v : V), X.N[i]? = some x → σ[i]? = some (some v) → Vis X.env.scope x → ∃ u, RelV v u ∧ Look X.env s.heap m x u
  cell : ∀ x c, X.env.cells.lookup x = some c → ∃ v, s.heap.IsCell c v
  free : H X.env.locals = none
  freeC : ∀ x c, X.env.cells.lookup x = some c → H c = none
  pin : ∀ p ∈ X.pn ++ pins, s.heap.get? p.1 = some p.2 ∧ H p.1 = none ∧ p.1 ≠ X.env.locals ∧ p.1 ∉ X.fs ∧ ∀ v, p.2.data ≠ .cell v
  hok : HOk X.prog X.w H s.heap
  len : σ.length = X.N.length

section
variable {X : Cx} {pins : List (Addr × Obj)} {σ : List (Option V)} {H H' : Hp} {s : Shared} {h' : Heap}

theorem Cx.Ok.nofr (ok : X.Ok) {b : Addr} {o : Obj} (e : X.base.get? b = some o) : b ∉ X.fs := fun hb => by
  have := (ok.funs.mem hb).1
  rw [e] at this; cases this
theorem Inv.bs (I : Inv X pins σ H s) : ∀ b o, X.base.get? b = some o → s.heap.get? b = some o ∧ H b = none := fun b o e =>
  ⟨I.base.keep b o (I.ok.bs b o e).1 (I.ok.bs b o e).2 (I.ok.nofr e) (I.ok.noex b o e), I.base.free b o (I.ok.bs b o e).1 (I.ok.bs b o e).2 (I.ok.noex b o e)⟩
theorem Inv.bk (I : Inv X pins σ H s) : ∀ b o, X.base.get? b = some o → s.heap.get? b = some o := fun b o e => (I.bs b o e).1
theorem Inv.mod (I : Inv X pins σ H s) : Mod X.K X.mg X.base := I.ok.mod
theorem Inv.kIn (I : Inv X pins σ H s) : X.K.In s.heap := I.ok.mod.kin.keeps I.bk
theorem Inv.lt (I : Inv X pins σ H s) : X.env.locals < s.heap.objs.size := let ⟨_, hn, _⟩ := I.loc; hn.lt
theorem Inv.sz (I : Inv X pins σ H s) : X.s₀.heap.objs.size ≤ s.heap.objs.size := Nat.le_trans I.ok.above (Nat.le_of_lt I.lt)
theorem Inv.nofs (I : Inv X pins σ H s) {a : Addr} (h : s.heap.objs.size ≤ a) : a ∉ X.fs := fun hb => by
  obtain ⟨_, o, ho, _⟩ := I.ok.funs.mem hb
  exact absurd (Nat.lt_of_lt_of_le (Heap.lt_size ho) (Nat.le_trans I.sz h)) (Nat.lt_irrefl _)
theorem Inv.cne (I : Inv X pins σ H s) : ∀ x c, X.env.cells.lookup x = some c → c ≠ X.env.locals := fun x c e z => by
  obtain ⟨v, o, ho, hd⟩ := I.cell x c e
  obtain ⟨m, ⟨o', es, ep, ho', hd', _⟩, _⟩ := I.loc
  rw [z, ho'] at ho; cases ho; rw [hd'] at hd; cases hd
theorem Inv.funs (I : Inv X pins σ H s) : s.heap.FunFrames X.base X.outer := by
  have all : ∀ (l : List Env), (∀ b ∈ frs l, b ∈ X.fs) → X.s₀.heap.FunFrames X.base l → s.heap.FunFrames X.base l := by
    intro l
    induction l with
    | nil => intro _ _; trivial
    | cons env r ih =>
      intro hs hl
      obtain ⟨hk, ⟨L, o, hf, hn, ho, hd⟩, hr⟩ := hl
      have hL : L ∈ X.fs := hs L (by unfold frs; rw [List.filterMap_cons, hf]; exact List.mem_cons_self)
      obtain ⟨sl, e⟩ := I.base.slot L o ho (I.ok.frf L hL) hL fun z => I.ok.exfs L z hL
      exact ⟨hk, ⟨L, _, hf, hn, e, hd⟩, ih (fun b hb => hs b (by unfold frs; rw [List.filterMap_cons, hf]; exact List.mem_cons_of_mem _ hb)) hr⟩
  exact all X.outer (fun _ hb => hb) I.ok.funs

/-- the frames that run, for a call -/
theorem Inv.stack (I : Inv X pins σ H s) : s.heap.FunFrames X.base X.stack := by
  rcases I.ok.stk with e | ⟨e, hf⟩
  · rw [e]; exact I.funs
  · rw [e]
    obtain ⟨m, hn, _⟩ := I.loc
    refine .cons (by rw [I.ok.kind]; decide) hf hn ?_ I.funs
    exact Heap.get?_none_of_le (Nat.le_trans I.ok.bsz I.ok.above)
theorem Inv.stkSub (I : Inv X pins σ H s) : ∀ b ∈ frs X.stack, b ∈ X.env.locals :: X.fs := fun b hb => by
  rcases I.ok.stk with e | ⟨e, hf⟩
  · rw [e] at hb; exact List.mem_cons_of_mem _ hb
  · rw [e] at hb
    unfold frs at hb
    rw [List.filterMap_cons, hf] at hb
    exact hb
theorem Inv.stkFree (I : Inv X pins σ H s) : ∀ b ∈ frs X.stack, H b = none := fun b hb => by
  rcases List.mem_cons.mp (I.stkSub b hb) with e | hb
  · rw [e]; exact I.free
  · obtain ⟨_, o, ho, _⟩ := I.ok.funs.mem hb
    exact I.base.free b o ho (I.ok.frf b hb) fun z => I.ok.exfs b z hb

/-- THE STEP: the untracked objects but the frame and the records at ch are kept (the callers' frames up to slots), the frame's map is kept, the new abstract heap is held -/
theorem Inv.step {g' : Array GenState} {t' : Nat} {d' : Drawn} {ch : List Addr} (I : Inv X pins σ H s)
    (hch : ∀ b ∈ ch, (b ∈ X.ex ∨ X.s₀.heap.objs.size ≤ b) ∧ b ≠ X.env.locals ∧ (∀ x c, X.env.cells.lookup x = some c → c ≠ b) ∧ ∀ p ∈ X.pn ++ pins, p.1 ≠ b)
    (keep : ∀ b o, b ≠ X.env.locals → b ∉ X.fs → b ∉ ch → s.heap.get? b = some o → H b = none → h'.get? b = some o)
    (slot : ∀ b o, b ≠ X.env.locals → b ∈ X.fs → b ∉ ch → s.heap.get? b = some o → H b = none → ∃ sl, h'.get? b = some { o with slots := sl }) (free : ∀ b o, b ∉ ch → s.heap.get? b = some o → H b = none → H' b = none)
    (there : ∀ b o, b ∉ ch → s.heap.get? b = some o → ∃ o', h'.get? b = some o')
    (tups : ∀ b xs, H b = some (.tup xs) → H' b = some (.tup xs)) (frzs : ∀ b o u, H b = some (.frz o u) → H' b = some (.frz o u)) (tbls : ∀ b ps, H b = some (.tbl ps) → ∃ more, H' b = some (.tbl (ps ++ more)))
    (ns : ∀ m, s.heap.Ns X.env.locals m → h'.Ns X.env.locals m) (hok : HOk X.prog X.w H' h') (hg : AllBare g') :
    Inv X pins σ H' { s with heap := h', gens := g', drawn := d', toks := t' } := by
  have neL : ∀ b o, X.s₀.heap.get? b = some o → b ≠ X.env.locals := fun b o e => Nat.ne_of_lt (Nat.lt_of_lt_of_le (Heap.lt_size e) I.ok.above)
  have neC : ∀ b o, X.s₀.heap.get? b = some o → b ∉ X.ex → b ∉ ch := fun b o e hx hb => by
    rcases (hch b hb).1 with z | z
    · exact hx z
    · exact absurd (Nat.lt_of_lt_of_le (Heap.lt_size e) z) (Nat.lt_irrefl _)
  have cellK : ∀ x c, X.env.cells.lookup x = some c → ∀ v, s.heap.IsCell c v → h'.IsCell c v := fun x c e v ⟨o, ho, hd⟩ => by
    have nch : c ∉ ch := fun z => (hch c z).2.2.1 x c e rfl
    by_cases hc : c ∈ X.fs
    · obtain ⟨sl, q⟩ := slot c o (I.cne x c e) hc nch ho (I.freeC x c e)
      exact ⟨_, q, hd⟩
    · exact ⟨o, keep c o (I.cne x c e) hc nch ho (I.freeC x c e), hd⟩
  refine ⟨I.ok, I.os, hg, ⟨fun b o e n hb hx => ?_, fun b o e n hb hx => ?_, fun b o e n hx => ?_, fun b o e hx => ?_, fun b xs e => tups b xs (I.base.tups b xs e), fun b o xs e => frzs b o xs (I.base.frzs b o xs e), fun b ps e => ?_⟩, ?_, fun x c e => ?_, ?_, fun x c e => ?_, fun p hp => ?_, hok, I.len⟩
  · exact keep b o (neL b o e) hb (neC b o e hx) (I.base.keep b o e n hb hx) (I.base.free b o e n hx)
  · obtain ⟨sl, e1⟩ := I.base.slot b o e n hb hx
    obtain ⟨sl', e2⟩ := slot b _ (neL b o e) hb (neC b o e hx) e1 (I.base.free b o e n hx)
    exact ⟨sl', e2⟩
  · obtain ⟨o', e1⟩ := I.base.there b o e hx
    exact free b o' (neC b o e hx) e1 (I.base.free b o e n hx)
  · obtain ⟨o', e1⟩ := I.base.there b o e hx
    exact there b o' (neC b o e hx) e1
  · obtain ⟨m1, e1⟩ := I.base.tbls b ps e
    obtain ⟨m2, e2⟩ := tbls b _ e1
    exact ⟨m1 ++ m2, by rw [e2, Array.append_assoc]⟩
  · obtain ⟨m, hn, hl⟩ := I.loc
    refine ⟨m, ns m hn, fun i x v e1 e2 e3 => ?_⟩
    obtain ⟨u, r, l⟩ := hl i x v e1 e2 e3
    refine ⟨u, r, ?_⟩
    rcases l with l | ⟨k, c, e, z⟩
    · exact .inl l
    · exact .inr ⟨k, c, e, cellK x c e _ z⟩
  · obtain ⟨v, z⟩ := I.cell x c e
    exact ⟨v, cellK x c e v z⟩
  · obtain ⟨m, ⟨o, _, _, ho, _⟩, _⟩ := I.loc
    exact free _ o (fun z => (hch _ z).2.1 rfl) ho I.free
  · obtain ⟨v, o, ho, hd⟩ := I.cell x c e
    exact free c o (fun z => (hch c z).2.2.1 x c e rfl) ho (I.freeC x c e)
  · obtain ⟨e, n, ne, nf, d⟩ := I.pin p hp
    have nch : p.1 ∉ ch := fun z => (hch p.1 z).2.2.2 p hp rfl
    exact ⟨keep p.1 p.2 ne nf nch e n, free p.1 p.2 nch e n, ne, nf, d⟩
/-- .. where the frame's own object is kept too -/
theorem Inv.un {t' : Nat} (I : Inv X pins σ H s) (u : Un X.fs [] H H' s.heap h') (hok : HOk X.prog X.w H' h') : Inv X pins σ H' { s with heap := h', toks := t' } := by
  obtain ⟨m, ⟨o, es, ep, ho, r⟩, _⟩ := id I.loc
  obtain ⟨sl, hL⟩ := u.any ho I.free (by simp)
  exact I.step (g' := s.gens) (d' := s.drawn) (ch := []) (fun _ z => nomatch z) (fun b o _ hb _ e n => u.keep b o e n hb (by simp)) (fun b o _ hb _ e n => u.slot b o e n hb (by simp)) (fun b o _ e n => u.free b o e n (by simp)) (fun b o _ e => u.there b o e (by simp)) u.tups u.frzs u.tbls (fun m' hm => by
    obtain ⟨o', es', ep', ho', r'⟩ := hm
    rw [ho] at ho'; cases ho'
    exact ⟨_, es', ep', hL, r'⟩) hok I.bare
/-- behind a call (or a comprehension's block): the slots of this frame may have changed too, the records at ch may have turned -/
theorem Inv.call {g' : Array GenState} {t' : Nat} {d' : Drawn} {ch : List Addr} (I : Inv X pins σ H s) (u : Un (frs X.stack) ch H H' s.heap h') (hok : HOk X.prog X.w H' h') (hg : AllBare g')
    (hch : ∀ b ∈ ch, (b ∈ X.ex ∨ X.s₀.heap.objs.size ≤ b) ∧ b ≠ X.env.locals ∧ (∀ x c, X.env.cells.lookup x = some c → c ≠ b) ∧ ∀ p ∈ X.pn ++ pins, p.1 ≠ b) :
    Inv X pins σ H' { s with heap := h', gens := g', drawn := d', toks := t' } := by
  obtain ⟨m, ⟨o, es, ep, ho, r⟩, _⟩ := id I.loc
  obtain ⟨sl, hL⟩ := u.any ho I.free fun z => (hch _ z).2.1 rfl
  exact I.step (ch := ch) hch (fun b o hL hb hc e n => u.keep b o e n (fun z => (List.mem_cons.mp (I.stkSub b z)).elim hL hb) hc) (fun b o _ _ hc e n => u.any e n hc) (fun b o hc e n => u.free b o e n hc) (fun b o hc e => u.there b o e hc) u.tups u.frzs u.tbls (fun m' hm => by
    obtain ⟨o', es', ep', ho', r'⟩ := hm
    rw [ho] at ho'; cases ho'
    exact ⟨_, es', ep', hL, r'⟩) hok hg
/-- an untracked record of ours (an iterator) has turned -/
theorem Inv.turned {t' : Nat} {it : Addr} (I : Inv X pins σ H s) (k : ∀ b o, b ≠ it → s.heap.get? b = some o → h'.get? b = some o) (hn : H it = none) (hL : it ≠ X.env.locals)
    (h1 : it ∈ X.ex ∨ X.s₀.heap.objs.size ≤ it) (h2 : ∀ x c, X.env.cells.lookup x = some c → c ≠ it) (h3 : ∀ p ∈ X.pn ++ pins, p.1 ≠ it) : Inv X pins σ H { s with heap := h', toks := t' } := by
  have nit : ∀ b u, H b = some u → b ≠ it := fun b u e z => by rw [z, hn] at e; cases e
  refine I.step (g' := s.gens) (d' := s.drawn) (ch := [it]) (fun b hb => ?_) (fun b o _ _ hc e _ => k b o (fun z => hc (by simp [z])) e) (fun b o _ _ hc e _ => ⟨o.slots, k b o (fun z => hc (by simp [z])) e⟩) (fun _ _ _ _ n => n)
    (fun b o hc e => ⟨o, k b o (fun z => hc (by simp [z])) e⟩) (fun _ _ e => e) (fun _ _ _ e => e) (fun b ps e => ⟨#[], by rw [e]; simp⟩) (fun m hm => ?_) (fun b u e => ?_) I.bare
  · have e : b = it := by simpa using hb
    subst e
    exact ⟨h1, hL, h2, h3⟩
  · obtain ⟨o, es, ep, ho, r⟩ := hm
    exact ⟨o, es, ep, k _ o (Ne.symm hL) ho, r⟩
  · refine (I.hok b u e).stay (fun c v hc q => k c v ?_ q) (fun _ q => q) fun _ _ q => q
    rcases hc with z | z
    · rw [z]; exact nit b u e
    · exact nit c _ z
theorem Inv.tok (I : Inv X pins σ H s) (t : Nat) : Inv X pins σ H { s with toks := t } := I.un (h' := s.heap) (t' := t) Un.refl I.hok
/-- all objects kept -/
theorem Inv.kept {t' : Nat} (I : Inv X pins σ H s) (k : ∀ b u, s.heap.get? b = some u → h'.get? b = some u) : Inv X pins σ H { s with heap := h', toks := t' } := I.un (Un.kept k) (I.hok.kept k)
/-- a new object laid and tracked -/
theorem Inv.laid {a : Addr} {o : HO} {t' : Nat} (I : Inv X pins σ H s) (k : ∀ b u, s.heap.get? b = some u → h'.get? b = some u) (hp : s.heap.objs.size ≤ a) (new : ObjOk X.prog X.w (upd H a o) h' a o) :
    Inv X pins σ (upd H a o) { s with heap := h', toks := t' } := I.un (Un.laid k hp (I.hok.fresh hp)) (I.hok.laid k hp new)
/-- an object written -/
theorem Inv.write {x e : Addr} {o : HO} {t' : Nat} (I : Inv X pins σ H s) (mu : Mut (H x)) (he : e = x ∨ H e = some (.own x)) (k : ∀ b u, b ≠ e → s.heap.get? b = some u → h'.get? b = some u) (heo : ∃ u, h'.get? e = some u)
    (new : ObjOk X.prog X.w (upd H x o) h' x o) : Inv X pins σ (upd H x o) { s with heap := h', toks := t' } := I.un (Un.write mu he k heo) (I.hok.write mu he k heo new)
/-- forgetting slots, pins -/
theorem Inv.weak {σ' : List (Option V)} (I : Inv X pins σ H s) (hl : σ'.length = σ.length) (w : ∀ (i : Nat) v, σ'[i]? = some (some v) → σ[i]? = some (some v)) : Inv X pins σ' H s :=
  ⟨I.ok, I.os, I.bare, I.base, let ⟨m, hn, hl'⟩ := I.loc; ⟨m, hn, fun i x v e1 e2 e3 => hl' i x v e1 (w i v e2) e3⟩, I.cell, I.free, I.freeC, I.pin, I.hok, hl.trans I.len⟩
theorem Inv.pins_of {pins' : List (Addr × Obj)} (I : Inv X pins σ H s) (h : ∀ p ∈ pins', s.heap.get? p.1 = some p.2 ∧ H p.1 = none ∧ p.1 ≠ X.env.locals ∧ p.1 ∉ X.fs ∧ ∀ v, p.2.data ≠ .cell v) : Inv X pins' σ H s :=
  ⟨I.ok, I.os, I.bare, I.base, I.loc, I.cell, I.free, I.freeC, fun p hp => (List.mem_append.mp hp).elim (fun z => I.pin p (List.mem_append_left _ z)) (h p), I.hok, I.len⟩

theorem nodup_ix {N : List Str} (hN : N.Nodup) {i j : Nat} {x : Str} (a : N[i]? = some x) (b : N[j]? = some x) : i = j := by
  obtain ⟨h1, e1⟩ := List.getElem?_eq_some_iff.mp a
  obtain ⟨h2, e2⟩ := List.getElem?_eq_some_iff.mp b
  exact (List.getElem_inj hN).mp (e1.trans e2.symm)

/-- a name is stored; what changed -/
theorem store_ok2 {M : Model} {A : Around} {E : Value → Shared → Prop} {i : Nat} {x : Str} {v : V} {u : Value} {Q : Unit → Shared → Prop} (I : Inv X pins σ H s) (hN : X.N.Nodup) (hi : X.N[i]? = some x) (hx : Loc X.env.scope x) (r : RelV v u)
    (h : ∀ s', Inv X pins (σ.set i (some v)) H s' → (∃ a, Heap.SameBut a s.heap s'.heap ∧ (a = X.env.locals ∨ X.env.cells.lookup x = some a)) → Q () s') (hf : X.fn x = true ∨ X.env.scope.names.lookup x = some .local := by first | exact .inl rfl | exact .inr rfl | assumption) : wpAny M A (storeName X.env x u) Q E s := by
  obtain ⟨m, hn, hl⟩ := id I.loc
  have hcls : (X.env.scope.kind == .class || (X.env.scope.kind == .module && X.env.locals != X.env.globals)) = false := by rw [I.ok.kind]; rfl
  have hiσ : i < σ.length := by rw [I.len]; exact (List.getElem?_eq_some_iff.mp hi).1
  have cne := I.cne
  have tracked : ∀ {a : Addr} {h' : Heap}, (∃ o, s.heap.get? a = some o ∧ H a = none) → Heap.SameBut a s.heap h' → HOk X.prog X.w H h' := fun {a h'} ha hs b ob e => by
    obtain ⟨_, _, hfree⟩ := ha
    refine (I.hok b ob e).stay (fun c w' hc q => (hs.2 c ?_).trans q) (fun _ q => q) fun _ _ q => q
    rintro rfl
    rcases hc with rfl | hc
    · rw [hfree] at e; cases e
    · rw [hfree] at hc; cases hc
  rcases hx with hk | hk
  · refine wpAny_storeName_local hk hn (fun h' hn' hs => ?_) hcls
    obtain ⟨oL, _, _, hoL, _⟩ := id hn
    refine h _ ⟨I.ok, I.os, I.bare, ⟨fun b o e n hb hx => ?_, fun b o e n hb hx => ?_, I.base.free, fun b o e hx => ?_, I.base.tups, I.base.frzs, I.base.tbls⟩, ⟨_, hn', fun j y v' e1 e2 e3 => ?_⟩, fun y c e => ?_, I.free, I.freeC, fun p hp => ?_, tracked ⟨oL, hoL, I.free⟩ hs, by simpa using I.len⟩ ⟨_, hs, .inl rfl⟩
    · exact (hs.2 b (Nat.ne_of_lt (Nat.lt_of_lt_of_le (Heap.lt_size e) I.ok.above))).trans (I.base.keep b o e n hb hx)
    · obtain ⟨sl, e1⟩ := I.base.slot b o e n hb hx
      exact ⟨sl, (hs.2 b (Nat.ne_of_lt (Nat.lt_of_lt_of_le (Heap.lt_size e) I.ok.above))).trans e1⟩
    · obtain ⟨o', e1⟩ := I.base.there b o e hx
      exact ⟨o', (hs.2 b (Nat.ne_of_lt (Nat.lt_of_lt_of_le (Heap.lt_size e) I.ok.above))).trans e1⟩
    · by_cases hj : j = i
      · subst hj
        rw [hi] at e1; cases e1
        rw [List.getElem?_set_self hiσ] at e2
        cases e2
        exact ⟨u, r, .inl ⟨hk, by simp⟩⟩
      · rw [List.getElem?_set_ne (Ne.symm hj)] at e2
        obtain ⟨u', r', q⟩ := hl j y v' e1 e2 e3
        refine ⟨u', r', ?_⟩
        rcases q with ⟨k, e⟩ | ⟨k, c, e, z⟩
        · refine .inl ⟨k, ?_⟩
          have : y ≠ x := fun e => hj (nodup_ix hN e1 (e ▸ hi))
          simp [this, e]
        · exact .inr ⟨k, c, e, z.sameBut hs (cne y c e)⟩
    · obtain ⟨w', z⟩ := I.cell y c e
      exact ⟨w', z.sameBut hs (cne y c e)⟩
    · obtain ⟨e, n, ne, nf, d⟩ := I.pin p hp
      exact ⟨(hs.2 p.1 ne).trans e, n, ne, nf, d⟩
  · have hfn : X.fn x = true := by
      rcases hf with z | z
      · exact z
      · rw [z] at hk; cases hk
    obtain ⟨c, hc⟩ := I.ok.has x (.inl hk)
    obtain ⟨w', z⟩ := I.cell x c hc
    refine wpAny_storeName_cell I.ok.kind hk hc z (fun h' hc' hs => ?_)
    obtain ⟨oc, hoc, hocd⟩ := id z
    refine h { s with heap := h' } ⟨I.ok, I.os, I.bare, ⟨fun b o e n hb hx => ?_, fun b o e n hb hx => ?_, I.base.free, fun b o e hx => ?_, I.base.tups, I.base.frzs, I.base.tbls⟩, ⟨m, hn.sameBut hs (Ne.symm (cne x c hc)), fun j y v' e1 e2 e3 => ?_⟩, fun y c' e => ?_, I.free, I.freeC, fun p hp => ?_, tracked ⟨oc, hoc, I.freeC x c hc⟩ hs, by simpa using I.len⟩ ⟨c, hs, .inr hc⟩
    · exact (hs.2 b (Nat.ne_of_lt (Nat.lt_of_lt_of_le (Heap.lt_size e) (I.ok.cab x c hfn hc)))).trans (I.base.keep b o e n hb hx)
    · obtain ⟨sl, e1⟩ := I.base.slot b o e n hb hx
      exact ⟨sl, (hs.2 b (Nat.ne_of_lt (Nat.lt_of_lt_of_le (Heap.lt_size e) (I.ok.cab x c hfn hc)))).trans e1⟩
    · obtain ⟨o', e1⟩ := I.base.there b o e hx
      exact ⟨o', (hs.2 b (Nat.ne_of_lt (Nat.lt_of_lt_of_le (Heap.lt_size e) (I.ok.cab x c hfn hc)))).trans e1⟩
    · by_cases hj : j = i
      · subst hj
        rw [hi] at e1; cases e1
        rw [List.getElem?_set_self hiσ] at e2
        cases e2
        exact ⟨u, r, .inr ⟨.inl hk, c, hc, hc'⟩⟩
      · rw [List.getElem?_set_ne (Ne.symm hj)] at e2
        obtain ⟨u', r', q⟩ := hl j y v' e1 e2 e3
        refine ⟨u', r', ?_⟩
        rcases q with q | ⟨k, c', e, z'⟩
        · exact .inl q
        · refine .inr ⟨k, c', e, z'.sameBut hs ?_⟩
          rintro rfl
          exact hj (nodup_ix hN e1 (I.ok.inj _ _ _ e hc ▸ hi))
    · by_cases hcc : c' = c
      · subst hcc; exact ⟨_, hc'⟩
      · obtain ⟨w2, z2⟩ := I.cell y c' e
        exact ⟨w2, z2.sameBut hs hcc⟩
    · obtain ⟨e, n, ne, nf, d⟩ := I.pin p hp
      refine ⟨(hs.2 p.1 ?_).trans e, n, ne, nf, d⟩
      intro q
      rw [q, hoc] at e
      have q' : oc = p.2 := Option.some.inj e
      exact d w' (by rw [← q']; exact hocd)
theorem store_ok {M : Model} {A : Around} {E : Value → Shared → Prop} {i : Nat} {x : Str} {v : V} {u : Value} {Q : Unit → Shared → Prop} (I : Inv X pins σ H s) (hN : X.N.Nodup) (hi : X.N[i]? = some x) (hx : Loc X.env.scope x) (r : RelV v u)
    (h : ∀ s', Inv X pins (σ.set i (some v)) H s' → Q () s') (hf : X.fn x = true ∨ X.env.scope.names.lookup x = some .local := by first | exact .inl rfl | exact .inr rfl | assumption) : wpAny M A (storeName X.env x u) Q E s :=
  store_ok2 I hN hi hx r (fun s' I' _ => h s' I') hf
/-- behind a call or a block, the state as it is -/
theorem Inv.call' {s' : Shared} {ch : List Addr} (I : Inv X pins σ H s) (ho : s'.os = s.os) (u : Un (frs X.stack) ch H H' s.heap s'.heap) (hok : HOk X.prog X.w H' s'.heap) (hg : AllBare s'.gens)
    (hch : ∀ b ∈ ch, (b ∈ X.ex ∨ X.s₀.heap.objs.size ≤ b) ∧ b ≠ X.env.locals ∧ (∀ x c, X.env.cells.lookup x = some c → c ≠ b) ∧ ∀ p ∈ X.pn ++ pins, p.1 ≠ b) : Inv X pins σ H' s' := by
  obtain ⟨h', g', d', t', o'⟩ := s'
  have e : o' = s.os := ho
  subst e
  exact I.call (g' := g') (t' := t') (d' := d') u hok hg hch
end

/-- an exception: its class, its own dict's address (where it has one), the abstract heap behind it -/
abbrev XK := Value → Option Addr → Hp → Prop
abbrev St := List (Option V)
abbrev VK := V → Hp → Prop
/-- an expression's reading; a test's; an argument list's -/
abbrev TE := St → Hp → VK → Prop
abbrev TT := St → Hp → (Bool → Hp → Prop) → Prop
abbrev TA := St → Hp → (List V → Hp → Prop) → Prop
/-- what is wanted behind a statement -/
structure Ends where
  nx : St → Hp → Prop
  rt : VK
  bk : St → Hp → Prop := fun _ _ => False
  ct : St → Hp → Prop := fun _ _ => False
abbrev TS := Ends → St → Hp → Prop

def EP (X : Cx) (pins : List (Addr × Obj)) (σ : St) (Q : VK) (u : Value) (s' : Shared) : Prop := ∃ v H', Inv X pins σ H' s' ∧ RelV v u ∧ Q v H'
def TP (X : Cx) (pins : List (Addr × Obj)) (σ : St) (Q : Bool → Hp → Prop) (b : Bool) (s' : Shared) : Prop := ∃ H', Inv X pins σ H' s' ∧ Q b H'
def AP (X : Cx) (pins : List (Addr × Obj)) (σ : St) (Q : List V → Hp → Prop) (us : List Value) (s' : Shared) : Prop := ∃ vs H', Inv X pins σ H' s' ∧ Vals vs us ∧ Q vs H'
def SP (X : Cx) (pins : List (Addr × Obj)) (D : Ends) (f : Flow) (s' : Shared) : Prop :=
  match f with
  | .next => ∃ σ' H', Inv X pins σ' H' s' ∧ D.nx σ' H'
  | .brk => ∃ σ' H', Inv X pins σ' H' s' ∧ D.bk σ' H'
  | .cont => ∃ σ' H', Inv X pins σ' H' s' ∧ D.ct σ' H'
  | .ret u => ∃ v σ' H', Inv X pins σ' H' s' ∧ RelV v u ∧ D.rt v H'

def PE (X : Cx) (e : Expr) (t : TE) : Prop :=
  ∀ (pins : List (Addr × Obj)) (s : Shared) (σ : St) (H : Hp) (Q : VK), Inv X pins σ H s → t σ H Q → wpAny (model X.prog X.w) X.A (eval e X.env) (EP X pins σ Q) X.xe s
def PT (X : Cx) (e : Expr) (t : TT) : Prop :=
  ∀ (pins : List (Addr × Obj)) (s : Shared) (σ : St) (H : Hp) (Q : Bool → Hp → Prop), Inv X pins σ H s → t σ H Q → wpAny (model X.prog X.w) X.A (isTrue e X.env (eval e X.env)) (TP X pins σ Q) X.xe s
/-- a test whatever its 'whole' is (and, or) -/
def PW (X : Cx) (e : Expr) (t : TT) : Prop :=
  ∀ (whole : Sem Value) (pins : List (Addr × Obj)) (s : Shared) (σ : St) (H : Hp) (Q : Bool → Hp → Prop), Inv X pins σ H s → t σ H Q → wpAny (model X.prog X.w) X.A (isTrue e X.env whole) (TP X pins σ Q) X.xe s
theorem PW.pt {X : Cx} {e : Expr} {t : TT} (h : PW X e t) : PT X e t := h _
/-- an argument list (no star), from the left -/
def PA (X : Cx) (es : List Expr) (t : TA) : Prop :=
  ∀ (pos : Pos) (pins : List (Addr × Obj)) (s : Shared) (σ : St) (H : Hp) (Q : List V → Hp → Prop), Inv X pins σ H s → t σ H Q → wpAny (model X.prog X.w) X.A (spliced (backTo pos (starEach es X.env))) (AP X pins σ Q) X.xe s
def PS (X : Cx) (st : Stmt) (t : TS) : Prop :=
  ∀ (pins : List (Addr × Obj)) (s : Shared) (σ : St) (H : Hp) (D : Ends), Inv X pins σ H s → t D σ H → wpAny (model X.prog X.w) X.A (exec st X.env) (SP X pins D) X.xe s
def PSs (X : Cx) (st : List Stmt) (t : TS) : Prop :=
  ∀ (pins : List (Addr × Obj)) (s : Shared) (σ : St) (H : Hp) (D : Ends), Inv X pins σ H s → t D σ H → wpAny (model X.prog X.w) X.A (execs st X.env) (SP X pins D) X.xe s
/-- weaken the end -/
theorem thn {α : Type} {t : Sem α} {Q Q' : α → Shared → Prop} {M : Model} {A : Around} {E : Value → Shared → Prop} {s : Shared} (h : wpAny M A t Q E s) (hQ : ∀ a s, Q a s → Q' a s) : wpAny M A t Q' E s := wpAny_mono h hQ fun _ _ x => x
end L2

namespace L2
open PySem PySem.Spec PyProof.Rows
section
variable {X : Cx}

def tVar (i : Nat) : TE := fun σ H Q => ∃ v, σ[i]? = some (some v) ∧ Q v H
def tC (v : V) : TE := fun _ H Q => Q v H
theorem pe_var {i : Nat} {x : Str} {pos : Pos} (hN : X.N[i]? = some x) (hv : Vis X.env.scope x) (hd : (x == ("__debug__" : Str)) = false := by decide) (hcd : (x == ("__classdict__" : Str)) = false := by decide) : PE X (.Name x pos) (tVar i) := by
  intro pins s σ H Q I h
  obtain ⟨v, e, h⟩ := h
  obtain ⟨m, hn, hl⟩ := I.loc
  obtain ⟨u, r, l⟩ := hl i x v hN e hv
  have fin : EP X pins σ Q u s := ⟨v, H, I, r, h⟩
  rcases l with ⟨hk, hm⟩ | ⟨hk, c, hc, hcell⟩
  · exact wpAny_Name (wpAny_loadName_local I.ok.kind hk hn hm fin) hd
  · rcases hk with hk | hk
    · exact wpAny_Name (wpAny_loadName_cell I.ok.kind hk hc hcell fin) hd
    · exact wpAny_Name (wpAny_loadName_free I.ok.kind hk hc hcell fin hcd) hd
theorem pe_int {i j pos} : PE X (.Constant (.int i) j pos) (tC (.int i)) := fun _ _ _ H _ I h => wpAny_Constant_int ⟨.int i, H, I.tok _, ⟨_, rfl⟩, h⟩
theorem pe_bl {b j pos} : PE X (.Constant (.bool b) j pos) (tC (.bl b)) := fun _ _ _ H _ I h => Constant_bool ⟨.bl b, H, I, rfl, h⟩
theorem pe_str {x j pos} : PE X (.Constant (.str x) j pos) (tC (.str x)) := fun _ _ _ H _ I h => Calls.Constant_str ⟨.str x, H, I.tok _, ⟨_, rfl⟩, h⟩

/-- a global name of the def -/
def Gl (X : Cx) (x : Str) : Prop := X.env.kindOf x = some .globalImplicit
theorem ld_glob {E : Value → Shared → Prop} {pins : List (Addr × Obj)} {s : Shared} {σ : St} {H : Hp} {x : Str} {u : Value} {pos : Pos} {Q : Value → Shared → Prop} (I : Inv X pins σ H s) (hg : Gl X x) (hm : X.mg x = some u) (h : Q u s)
    (hd : (x == ("__debug__" : Str)) = false := by decide) : wpAny (model X.prog X.w) X.A (eval (.Name x pos) X.env) Q E s :=
  Calls.Name_function_global I.ok.kind hg (Calls.loadGlobal_global (by rw [I.ok.glob]; exact I.mod.glob.keeps I.bk) hm h) hd
theorem ld_blt {E : Value → Shared → Prop} {pins : List (Addr × Obj)} {s : Shared} {σ : St} {H : Hp} {x : Str} {u : Value} {pos : Pos} {Q : Value → Shared → Prop} (I : Inv X pins σ H s) (hg : Gl X x) (hm : X.mg x = none) (hv : bootBuiltins x = some u) (h : Q u s)
    (hn : x ≠ "__name__" := by decide) (hd : (x == ("__debug__" : Str)) = false := by decide) : wpAny (model X.prog X.w) X.A (eval (.Name x pos) X.env) Q E s := by
  obtain ⟨mb, h1, h2⟩ := I.mod.blt
  exact Calls.Name_function_global I.ok.kind hg (Calls.loadGlobal_builtin (by rw [I.ok.glob]; exact I.mod.glob.keeps I.bk) hm (by rw [I.ok.blt]; exact h1.keeps I.bk) ((h2 x hn).trans hv) h) hd
/-- a module's constant, a class, a function, as a value -/
theorem pe_glob {x : Str} {v : V} {u : Value} {pos : Pos} (hg : Gl X x) (hm : X.mg x = some u) (r : RelV v u) (hd : (x == ("__debug__" : Str)) = false := by decide) : PE X (.Name x pos) (tC v) :=
  fun _ _ _ H _ I h => ld_glob I hg hm ⟨v, H, I, r, h⟩ hd
theorem pe_bltn {x : Str} {v : V} {u : Value} {pos : Pos} (hg : Gl X x) (hm : X.mg x = none) (hv : bootBuiltins x = some u) (r : RelV v u) (hn : x ≠ "__name__" := by decide) (hd : (x == ("__debug__" : Str)) = false := by decide) : PE X (.Name x pos) (tC v) :=
  fun _ _ _ H _ I h => ld_blt I hg hm hv ⟨v, H, I, r, h⟩ hn hd

variable {a b : Expr} {ta tb : TE} {pos : Pos}
/-- a comparison as a value, as a test -/
def tB (t : TE) : TT := fun σ H Q => t σ H fun x H1 => ∃ c, x = .bl c ∧ Q c H1
/-- an expression whose value is a bool, as a test -/
theorem pt_val {e : Expr} {t : TE} (h : PE X e t) (he : ∀ whole, isTrue e X.env whole = (do let v ← whole; standAt e.pos; holding [v] (truthy v)) := by intro _; rfl) : PT X e (tB t) := by
  intro pins s σ H Q I hw
  refine isTrue_plain (thn (h pins s σ H _ I hw) fun v s1 ⟨x, H1, I1, r1, q1⟩ => ?_) (he _)
  obtain ⟨d, rfl, q⟩ := q1
  cases r1
  exact wpAny_truthy_bool ⟨H1, I1, q⟩

variable {tA tB' : TT} {rest : List Expr}
def tAnd (t u : TT) : TT := fun σ H Q => t σ H fun c H1 => if c = true then u σ H1 Q else Q false H1
def tOr (t u : TT) : TT := fun σ H Q => t σ H fun c H1 => if c = true then Q true H1 else u σ H1 Q
def tNot (t : TT) : TT := fun σ H Q => t σ H fun c H1 => Q (!c) H1
theorem pw_and1 (ha : PT X a tA) : PW X (.BoolOp .And [a] pos) tA := by
  intro wh pins s σ H Q I h
  refine isTrue_and (thn (ha pins s σ H Q I h) fun c s1 e => ?_)
  cases c with
  | true => exact isTrue_and_nil e
  | false => exact e
theorem pw_or1 (ha : PT X a tA) : PW X (.BoolOp .Or [a] pos) tA := by
  intro wh pins s σ H Q I h
  refine isTrue_or (thn (ha pins s σ H Q I h) fun c s1 e => ?_)
  cases c with
  | false => exact isTrue_or_nil e
  | true => exact e
theorem pw_and (ha : PT X a tA) (hb : PW X (.BoolOp .And (b :: rest) pos) tB') : PW X (.BoolOp .And (a :: b :: rest) pos) (tAnd tA tB') := by
  intro wh pins s σ H Q I h
  refine isTrue_and (thn (ha pins s σ H _ I h) fun c s1 ⟨H1, I1, q1⟩ => ?_)
  cases c with
  | true => exact hb wh pins s1 σ H1 Q I1 q1
  | false => exact ⟨H1, I1, q1⟩
theorem pw_or (ha : PT X a tA) (hb : PW X (.BoolOp .Or (b :: rest) pos) tB') : PW X (.BoolOp .Or (a :: b :: rest) pos) (tOr tA tB') := by
  intro wh pins s σ H Q I h
  refine isTrue_or (thn (ha pins s σ H _ I h) fun c s1 ⟨H1, I1, q1⟩ => ?_)
  cases c with
  | true => exact ⟨H1, I1, q1⟩
  | false => exact hb wh pins s1 σ H1 Q I1 q1
theorem pt_not (ha : PT X a tA) : PT X (.UnaryOp .Not a pos) (tNot tA) := by
  intro pins s σ H Q I h
  exact isTrue_not (ha pins s σ H (fun c H1 => Q (!c) H1) I h)
/-- .. as values (bools) -/
def tAndV (ta tb : TE) : TE := fun σ H Q => ta σ H fun x H1 => ∃ c, x = .bl c ∧ if c = true then tb σ H1 Q else Q (.bl false) H1
def tNotV (ta : TE) : TE := fun σ H Q => ta σ H fun x H1 => ∃ c, x = .bl c ∧ Q (.bl (!c)) H1
theorem pe_one {op} {t : TE} (h : PE X a t) : PE X (.BoolOp op [a] pos) t := fun pins s σ H Q I hw => BoolOp_one (h pins s σ H Q I hw)
theorem pe_and (ha : PE X a ta) (hb : PE X (.BoolOp .And (b :: rest) pos) tb) : PE X (.BoolOp .And (a :: b :: rest) pos) (tAndV ta tb) := by
  intro pins s σ H Q I h
  refine BoolOp_and (thn (ha pins s σ H _ I h) fun v s1 ⟨x, H1, I1, r1, q1⟩ => ?_)
  obtain ⟨c, rfl, q1⟩ := q1
  cases r1
  refine wpAny_truthy_bool ?_
  cases c with
  | true => exact hb pins s1 σ H1 Q I1 q1
  | false => exact ⟨.bl false, H1, I1, rfl, q1⟩
theorem pe_not (ha : PE X a ta) : PE X (.UnaryOp .Not a pos) (tNotV ta) := by
  intro pins s σ H Q I h
  refine UnaryOp_ (thn (ha pins s σ H _ I h) fun v s1 ⟨x, H1, I1, r1, q1⟩ => ?_)
  obtain ⟨c, rfl, q1⟩ := q1
  cases r1
  exact not_of (wpAny_truthy_bool ⟨.bl (!c), H1, I1, rfl, q1⟩)
end
end L2

namespace L2
open PySem PySem.Spec PyProof.Rows

def SqL (K : PySem.W.Frag) (H : Hp) (a : Addr) (xs : List V) : Prop :=
  Rd H a (.lst xs) ∨
    ∃ (o : Obj) (its : Array Value) (n : Nat), K.lookup a = some o ∧ o.cls = .type "list" ∧ o.dict = none ∧ o.data = .seq its n ∧ its.size ≤ sizeLine ∧ Vals xs its.toList
def SqT (K : PySem.W.Frag) (H : Hp) (a : Addr) (xs : List V) : Prop :=
  Rd H a (.tup xs) ∨
    ∃ (o : Obj) (its : Array Value) (n : Nat), K.lookup a = some o ∧ o.cls = .type "tuple" ∧ o.data = .seq its n ∧ its.size ≤ sizeLine ∧ Vals xs its.toList
def absV : Value → Option V
  | .none => some .non
  | .bool b => some (.bl b)
  | .int i _ => some (.int i)
  | .str x _ => some (.str x)
  | .bytes b _ => some (.byt b)
  | .float b _ => some (.flt b)
  | .ref a => some (.ref a)
  | .type n => some (.ty n)
  | _ => none
theorem RelV.abs {x : V} {u : Value} (r : RelV x u) : absV u = some x := by
  cases x with
  | non => cases r; rfl
  | bl _ => cases r; rfl
  | int _ => obtain ⟨t, rfl⟩ := r; rfl
  | str _ => obtain ⟨t, rfl⟩ := r; rfl
  | byt _ => obtain ⟨t, rfl⟩ := r; rfl
  | flt _ => obtain ⟨t, rfl⟩ := r; rfl
  | ref _ => cases r; rfl
  | ty _ => cases r; rfl
theorem RelV.inj {x y : V} {u : Value} (r : RelV x u) (q : RelV y u) : x = y := Option.some.inj (r.abs.symm.trans q.abs)
theorem Vals.inj : ∀ {xs ys : List V} {us : List Value}, Vals xs us → Vals ys us → xs = ys
  | _, _, _, .nil, .nil => rfl
  | _, _, _, .cons r t, .cons r' t' => by rw [r.inj r', Vals.inj t t']
section
variable {X : Cx} {pins : List (Addr × Obj)} {σ : St} {H : Hp} {s : Shared} {a : Addr} {xs ys : List V}
theorem SqL.of {K : PySem.W.Frag} (h : H a = some (.lst xs)) : SqL K H a xs := .inl (.inl h)
theorem SqT.of {K : PySem.W.Frag} (h : H a = some (.tup xs)) : SqT K H a xs := .inl (.inl h)
theorem Inv.list (I : Inv X pins σ H s) (h : SqL X.K H a xs) : ∃ its : List Value, Vals xs its ∧ PlainL s.heap a its.toArray ∧ xs.length ≤ sizeLine := by
  rcases h with h | ⟨o, its, n, hk, hc, hd, hs, hz, r⟩
  · obtain ⟨z, its, n, r, e⟩ := h.ok I.hok
    exact ⟨its, r, ⟨_, n, e, rfl, rfl, rfl⟩, z⟩
  · refine ⟨its.toList, r, ⟨o, n, I.kIn a o hk, hc, hd, by simpa using hs⟩, ?_⟩
    have e := r.length
    simp only [Array.length_toList] at e
    omega
theorem Inv.tuple (I : Inv X pins σ H s) (h : SqT X.K H a xs) : ∃ its : List Value, Vals xs its ∧ IsTup s.heap a its.toArray ∧ xs.length ≤ sizeLine := by
  rcases h with h | ⟨o, its, n, hk, hc, hs, hz, r⟩
  · obtain ⟨z, its, r, p⟩ := h.ok I.hok
    exact ⟨its, r, p, z⟩
  · refine ⟨its.toList, r, ⟨o, I.kIn a o hk, hc, n, by simpa using hs⟩, ?_⟩
    have e := r.length
    simp only [Array.length_toList] at e
    omega
theorem Inv.list_inj (I : Inv X pins σ H s) (h : SqL X.K H a xs) (h' : SqL X.K H a ys) : xs = ys := by
  obtain ⟨its, r, ⟨o, n, e, _, _, d⟩, _⟩ := I.list h
  obtain ⟨its', r', ⟨o', n', e', _, _, d'⟩, _⟩ := I.list h'
  rw [e] at e'; cases e'
  rw [d] at d'
  injection d' with d1 _
  have : its = its' := by simpa using congrArg Array.toList d1
  subst this
  exact r.inj r'
theorem Inv.tuple_inj (I : Inv X pins σ H s) (h : SqT X.K H a xs) (h' : SqT X.K H a ys) : xs = ys := by
  obtain ⟨its, r, ⟨o, e, _, n, d⟩, _⟩ := I.tuple h
  obtain ⟨its', r', ⟨o', e', _, n', d'⟩, _⟩ := I.tuple h'
  rw [e] at e'; cases e'
  rw [d] at d'
  injection d' with d1 _
  have : its = its' := by simpa using congrArg Array.toList d1
  subst this
  exact r.inj r'
end

abbrev Cx.wish (X : Cx) (E : Value → Shared → Prop) : Cx := { X with xe := E }
/-- no exception leaves -/
abbrev Cx.nox (X : Cx) : Cx := X.wish fun _ _ => False
theorem Cx.Ok.wish {X : Cx} (ok : X.Ok) (E : Value → Shared → Prop) : (X.wish E).Ok :=
  ⟨ok.mod, ok.kind, ok.glob, ok.blt, ok.above, ok.inj, ok.has, ok.cab, ok.hd, ok.frames, ok.stk, ok.exf, ok.bs, ok.bsz, ok.noex, ok.exfs, ok.funs, ok.frf⟩
theorem Cx.Ok.unwish {X : Cx} {E : Value → Shared → Prop} (ok : (X.wish E).Ok) : X.Ok :=
  ⟨ok.mod, ok.kind, ok.glob, ok.blt, ok.above, ok.inj, ok.has, ok.cab, ok.hd, ok.frames, ok.stk, ok.exf, ok.bs, ok.bsz, ok.noex, ok.exfs, ok.funs, ok.frf⟩
section
variable {X : Cx} {pins : List (Addr × Obj)} {σ : St} {H : Hp} {s : Shared} {E : Value → Shared → Prop}
theorem Inv.wish (I : Inv X pins σ H s) (E : Value → Shared → Prop) : Inv (X.wish E) pins σ H s := ⟨I.ok.wish E, I.os, I.bare, I.base, I.loc, I.cell, I.free, I.freeC, I.pin, I.hok, I.len⟩
theorem Inv.unwish (I : Inv (X.wish E) pins σ H s) : Inv X pins σ H s := ⟨I.ok.unwish, I.os, I.bare, I.base, I.loc, I.cell, I.free, I.freeC, I.pin, I.hok, I.len⟩
theorem SP.unwish {D : Ends} {f : Flow} {s' : Shared} (h : SP (X.wish E) pins D f s') : SP X pins D f s' := by
  cases f with
  | next => obtain ⟨σ', H', I, q⟩ := h; exact ⟨σ', H', I.unwish, q⟩
  | brk => obtain ⟨σ', H', I, q⟩ := h; exact ⟨σ', H', I.unwish, q⟩
  | cont => obtain ⟨σ', H', I, q⟩ := h; exact ⟨σ', H', I.unwish, q⟩
  | ret u => obtain ⟨v, σ', H', I, r, q⟩ := h; exact ⟨v, σ', H', I.unwish, r, q⟩
theorem PSs.nox {st : List Stmt} {t : TS} (h : PSs X.nox st t) : PSs X st t := fun pins s σ H D I hw =>
  wpAny_mono (h pins s σ H D (I.wish _) hw) (fun _ _ q => q.unwish) fun _ _ z => False.elim z
end

section
variable {X : Cx} {st : Stmt} {rest : List Stmt} {t u : TS} {e : Expr} {te : TE} {pos : Pos}
def tNext : TS := fun D σ H => D.nx σ H
def tSeq (t u : TS) : TS := fun D σ H => t { D with nx := u D } σ H
theorem pss_nil : PSs X [] tNext := fun _ _ σ H _ I h => wpAny_execs_nil ⟨σ, H, I, h⟩
theorem pss_cons (h1 : PS X st t) (h2 : PSs X rest u) : PSs X (st :: rest) (tSeq t u) := by
  intro pins s σ H D I h
  refine wpAny_execs_cons (thn (h1 pins s σ H { D with nx := u D } I h) fun f s1 q => ?_)
  cases f with
  | next =>
    obtain ⟨σ', H', I', q⟩ := q
    exact h2 pins s1 σ' H' D I' q
  | ret v => exact q
  | brk => exact q
  | cont => exact q
theorem pss_one (h1 : PS X st t) : PSs X [st] t := by
  intro pins s σ H D I h
  refine wpAny_execs_cons (thn (h1 pins s σ H D I h) fun f s1 q => ?_)
  cases f with
  | next => exact wpAny_execs_nil q
  | ret v => exact q
  | brk => exact q
  | cont => exact q
/-- in a def's body nothing is shown -/
theorem Inv.quiet {pins : List (Addr × Obj)} {σ : St} {H : Hp} {s : Shared} (I : Inv X pins σ H s) : interactive X.env = false := by simp [interactive, I.ok.kind]
/-- an expression whose value is dropped -/
def tDrop (te : TE) : TS := fun D σ H => te σ H fun _ H1 => D.nx σ H1
theorem ps_expr (he : PE X e te) (hs : swapsWith e none pos.line X.env = pure false := by rfl) : PS X (.Expr e pos) (tDrop te) := by
  intro pins s σ H D I h
  exact wpAny_Expr_any (thn (he pins s σ H _ I h) fun v s1 ⟨x, H1, I1, r1, q1⟩ => ⟨σ, H1, I1, q1⟩) I.quiet hs
def tRet (te : TE) : TS := fun D σ H => te σ H D.rt
theorem ps_ret (he : PE X e te) : PS X (.Return (some e) pos) (tRet te) := by
  intro pins s σ H D I h
  exact wpAny_Return_some (thn (he pins s σ H _ I h) fun v s1 ⟨x, H1, I1, r1, q1⟩ => ⟨x, σ, H1, I1, r1, q1⟩)
def tIfS (c : TT) (t u : TS) : TS := fun D σ H => c σ H fun b H1 => if b = true then t D σ H1 else u D σ H1
theorem ps_if {c : Expr} {a b : List Stmt} {tc : TT} (hc : PT X c tc) (ha : PSs X a t) (hb : PSs X b u) : PS X (.If c a b pos) (tIfS tc t u) := by
  intro pins s σ H D I h
  refine wpAny_If (thn (hc pins s σ H _ I h) fun d s1 ⟨H1, I1, q1⟩ => ?_)
  cases d with
  | true => exact ha pins s1 σ H1 D I1 q1
  | false => exact hb pins s1 σ H1 D I1 q1
end

abbrev TG := V → St → Hp → (St → Hp → Prop) → Prop
abbrev TGs := List V → St → Hp → (St → Hp → Prop) → Prop
def PG (X : Cx) (target : Expr) (t : TG) : Prop :=
  ∀ (pins : List (Addr × Obj)) (s : Shared) (σ : St) (H : Hp) (v : V) (u : Value) (Q : St → Hp → Prop), Inv X pins σ H s → RelV v u → t v σ H Q →
    wpAny (model X.prog X.w) X.A (assign target X.env u) (fun _ s' => ∃ σ' H', Inv X pins σ' H' s' ∧ Q σ' H') X.xe s
/-- several targets, one after another -/
def PGs (X : Cx) (ts : List Expr) (t : TGs) : Prop :=
  ∀ (pins : List (Addr × Obj)) (s : Shared) (σ : St) (H : Hp) (vs : List V) (us : List Value) (Q : St → Hp → Prop), Inv X pins σ H s → Vals vs us → t vs σ H Q →
    wpAny (model X.prog X.w) X.A (assignInOrder ((assignEach ts X.env).map (·.2)) us) (fun _ s' => ∃ σ' H', Inv X pins σ' H' s' ∧ Q σ' H') X.xe s
/-- o[i] = v, by values -/
abbrev TSet := V → V → V → Hp → (Hp → Prop) → Prop
def PSet (X : Cx) (t : TSet) : Prop :=
  ∀ (pins : List (Addr × Obj)) (s : Shared) (σ : St) (H : Hp) (o i v : V) (ov iv u : Value) (Q : Hp → Prop), Inv X pins σ H s → RelV o ov → RelV i iv → RelV v u → t o i v H Q →
    wpAny (model X.prog X.w) X.A (setItem ov iv u) (fun _ s' => ∃ H', Inv X pins σ H' s' ∧ Q H') X.xe s
/-- a op= b, by values -/
abbrev TIp := V → V → Hp → VK → Prop
def PIp (X : Cx) (op : Operator) (t : TIp) : Prop :=
  ∀ (pins : List (Addr × Obj)) (s : Shared) (σ : St) (H : Hp) (x y : V) (v u : Value) (Q : VK), Inv X pins σ H s → RelV x v → RelV y u → t x y H Q →
    wpAny (model X.prog X.w) X.A (inplaceOp op v u) (EP X pins σ Q) X.xe s
section
variable {X : Cx} {pos : Pos}
def gName (i : Nat) : TG := fun v σ H Q => Q (σ.set i (some v)) H
theorem pg_name {i : Nat} {x : Str} (hN : X.N.Nodup) (hi : X.N[i]? = some x) (hx : Loc X.env.scope x) (hf : X.fn x = true ∨ X.env.scope.names.lookup x = some .local := by first | exact .inl rfl | exact .inr rfl | assumption) : PG X (.Name x pos) (gName i) := by
  intro pins s σ H v u Q I r h
  exact wpAny_assign_Name (store_ok I hN hi hx r (fun s' I' => ⟨_, H, I', h⟩) hf)
def gNil : TGs := fun vs σ H Q => vs = [] ∧ Q σ H
def gCons (t : TG) (u : TGs) : TGs := fun vs σ H Q => ∃ v r, vs = v :: r ∧ t v σ H fun σ' H' => u r σ' H' Q
theorem pgs_nil : PGs X [] gNil := by
  intro pins s σ H vs us Q I r h
  obtain ⟨e, h⟩ := h
  subst e
  cases r
  exact assignInOrder_nil ⟨σ, H, I, h⟩
theorem pgs_cons {e : Expr} {es : List Expr} {t : TG} {u : TGs} (h1 : PG X e t) (h2 : PGs X es u)
    (hs : (assignEach (e :: es) X.env).map (·.2) = assign e X.env :: (assignEach es X.env).map (·.2) := by rfl) : PGs X (e :: es) (gCons t u) := by
  intro pins s σ H vs us Q I r h
  obtain ⟨v, vr, e1, h⟩ := h
  subst e1
  cases r with
  | cons r rr =>
    rw [hs]
    refine assignInOrder_cons (thn (h1 pins s σ H _ _ _ I r h) fun _ s1 ⟨σ1, H1, I1, q1⟩ => ?_)
    exact h2 pins s1 σ1 H1 _ _ Q I1 rr q1
/-- (a, b, ..) = a tuple of that length -/
def gTup (K : PySem.W.Frag) (n : Nat) (t : TGs) : TG := fun v σ H Q => ∃ a xs, v = .ref a ∧ SqT K H a xs ∧ xs.length = n ∧ t xs σ H Q
theorem pg_tup {es : List Expr} {k : Nat} {t : TGs} {n : Nat} (hc : X.calm = true) (h : PGs X es t)
    (hn : (assignEach es X.env).length = n := by rfl) (hst : (assignEach es X.env).findIdx? (·.1) = none := by rfl) : PG X (.Tuple es k pos) (gTup X.K n t) := by
  intro pins s σ H v u Q I r hw
  obtain ⟨a, xs, e1, hq, hl, hw⟩ := hw
  subst e1
  cases r
  obtain ⟨its, rv, ht, hz⟩ := I.tuple hq
  refine assign_Tuple_tuple (I.ok.hd hc) ht (by simp [hn, ← hl, rv.length]) hst fun h' hx => ?_
  have I1 : Inv X pins σ H { s with heap := h' } := I.kept (t' := s.toks) fun b o e => hx b o (Nat.ne_of_lt (Heap.lt_size e)) e
  exact h pins _ σ H xs _ Q I1 (by simpa using rv) hw
/-- o[i] = .. -/
def gSub (to ti : TE) (t : TSet) : TG := fun v σ H Q => to σ H fun o H1 => ti σ H1 fun i H2 => t o i v H2 fun H3 => Q σ H3
theorem pg_sub {o i : Expr} {to ti : TE} {t : TSet} (ho : PE X o to) (hi : PE X i ti) (hs : PSet X t)
    (ha : ∀ v, assign (.Subscript o i pos) X.env v = (do
      let ov ← holding [v] (eval o X.env)
      let iv ← holding [v, ov] (eval i X.env)
      standAt pos
      holding [v, ov, iv] (setItem ov iv v)
      release [v, ov, iv] []) := by intro _; rfl) : PG X (.Subscript o i pos) (gSub to ti t) := by
  intro pins s σ H v u Q I r h
  rw [ha]
  refine wpAny_bind (wpAny_holding (thn (ho pins s σ H _ I h) fun ov s1 ⟨x, H1, I1, r1, q1⟩ => ?_))
  refine wpAny_bind (wpAny_holding (thn (hi pins s1 σ H1 _ I1 q1) fun iv s2 ⟨y, H2, I2, r2, q2⟩ => ?_))
  refine wpAny_bind (wpAny_standAt (wpAny_bind (wpAny_holding (thn (hs pins s2 σ H2 x y v ov iv u _ I2 r1 r2 r q2) fun _ s3 ⟨H3, I3, q3⟩ => ?_))))
  exact wpAny_release ⟨σ, H3, I3, q3⟩
/-- target = value -/
def tAsg (te : TE) (g : TG) : TS := fun D σ H => te σ H fun x H1 => g x σ H1 D.nx
theorem ps_asg {tg e : Expr} {te : TE} {g : TG} (he : PE X e te) (hg : PG X tg g) (hs : swapsWithSole [tg] e pos.line X.env = pure false := by rfl) (hw : swappedStores [tg] e X.env = pure none := by rfl)
    (h1 : (assignEach [tg] X.env).map (·.2) = [assign tg X.env] := by rfl) : PS X (.Assign [tg] e pos) (tAsg te g) := by
  intro pins s σ H D I h
  refine wpAny_Assign_stores (thn (he pins s σ H _ I h) fun v s1 ⟨x, H1, I1, r1, q1⟩ => ?_) hs hw
  rw [h1]
  exact thn (hg pins s1 σ H1 x v _ I1 r1 q1) fun _ s2 q => q
/-- name = value -/
theorem ps_set {i : Nat} {x : Str} {e : Expr} {te : TE} {pos' : Pos} (hN : X.N.Nodup) (hi : X.N[i]? = some x) (hx : Loc X.env.scope x) (he : PE X e te) (hs : swapsWith e (some (.Name x pos')) pos.line X.env = pure false := by rfl) (hf : X.fn x = true ∨ X.env.scope.names.lookup x = some .local := by first | exact .inl rfl | exact .inr rfl | assumption) :
    PS X (.Assign [.Name x pos'] e pos) (tAsg te (gName i)) := by
  intro pins s σ H D I h
  refine wpAny_Assign_Name (thn (he pins s σ H _ I h) fun v s1 ⟨y, H1, I1, r1, q1⟩ => ?_) hs
  exact store_ok I1 hN hi hx r1 (fun s2 I2 => ⟨_, H1, I2, q1⟩) hf
/-- name op= e -/
def tAug (i : Nat) (te : TE) (ti : TIp) : TS := fun D σ H => ∃ x, σ[i]? = some (some x) ∧ te σ H fun y H1 => ti x y H1 fun z H2 => D.nx (σ.set i (some z)) H2
theorem ps_aug {i : Nat} {x : Str} {e : Expr} {te : TE} {op : Operator} {ti : TIp} {pos' : Pos} (hN : X.N.Nodup) (hi : X.N[i]? = some x) (hx : Loc X.env.scope x) (he : PE X e te) (ho : PIp X op ti) (hf : X.fn x = true ∨ X.env.scope.names.lookup x = some .local := by first | exact .inl rfl | exact .inr rfl | assumption) :
    PS X (.AugAssign (.Name x pos') op e pos) (tAug i te ti) := by
  intro pins s σ H D I h
  obtain ⟨v, e1, h⟩ := h
  obtain ⟨m, hn, hl⟩ := I.loc
  have vis : Vis X.env.scope x := by rcases hx with k | k; exact .inl k; exact .inr (.inl k)
  obtain ⟨u, r, l⟩ := hl i x v hi e1 vis
  refine wpAny_AugAssign_Name ?_
  have go : wpAny (model X.prog X.w) X.A (eval e X.env) (fun w s₂ => wpAny (model X.prog X.w) X.A (inplaceOp op u w) (fun r s₃ => wpAny (model X.prog X.w) X.A (storeName X.env x r) (fun _ => SP X pins D .next) X.xe s₃) X.xe s₂) X.xe s := by
    refine thn (he pins s σ H _ I h) fun w s1 ⟨y, H1, I1, r1, q1⟩ => ?_
    refine thn (ho pins s1 σ H1 v y u w _ I1 r r1 q1) fun z s2 ⟨zv, H2, I2, r2, q2⟩ => ?_
    exact store_ok I2 hN hi hx r2 (fun s3 I3 => ⟨_, H2, I3, q2⟩) hf
  rcases l with ⟨hk, hm⟩ | ⟨hk, c, hc, hcell⟩
  · exact wpAny_loadName_local I.ok.kind hk hn hm go
  · rcases hk with hk | hk
    · exact wpAny_loadName_cell I.ok.kind hk hc hcell go
    · rcases hx with k | k
      · have : X.env.scope.names.lookup x = some .free := hk
        rw [k] at this; cases this
      · have : X.env.scope.names.lookup x = some .free := hk
        rw [k] at this; cases this
/-- ints -/
def ipI (f : Int → Int → Int) : TIp := fun x y H Q => ∃ i j, x = .int i ∧ y = .int j ∧ Q (.int (f i j)) H
theorem ip_add : PIp X .Add (ipI fun i j => i + j) := by
  intro pins s σ H x y v u Q I r1 r2 h
  obtain ⟨i, j, e1, e2, q⟩ := h
  subst e1; subst e2
  obtain ⟨t, rfl⟩ := r1
  obtain ⟨t', rfl⟩ := r2
  exact iadd_int ⟨.int _, H, I.tok _, ⟨_, rfl⟩, q⟩
end

section
variable {X : Cx} {pos : Pos}
/-- the invariant W with its measure -/
def tWhile (c : TT) (tb : TS) : TS := fun D σ H => ∃ W : Nat → St → Hp → Prop, (∃ m, W m σ H) ∧ ∀ m σ H, W m σ H →
  c σ H fun b H1 => if b = true then ∃ N : St → Hp → Prop, (∀ σ' H', N σ' H' → ∃ m', m' < m ∧ W m' σ' H') ∧ tb { D with nx := N, ct := N, bk := D.nx } σ H1 else D.nx σ H1
theorem ps_while {c : Expr} {body : List Stmt} {tc : TT} {tb : TS} (hp : PassesOwn (model X.prog X.w) X.A X.env X.xe) (hc : PT X c tc) (hb : PSs X body tb) : PS X (.While c body [] pos) (tWhile tc tb) := by
  intro pins s σ H D I h
  obtain ⟨W, ⟨m0, w0⟩, turn⟩ := h
  refine wpAny_While (codeAny_whileLoop (fun n s' => ∃ σ' H', Inv X pins σ' H' s' ∧ W n σ' H') ?_ m0 ⟨σ, H, I, w0⟩)
  rintro n s1 ⟨σ1, H1, I1, w1⟩
  refine wpAny_passesOwn hp (thn (hc pins s1 σ1 H1 _ I1 (turn n σ1 H1 w1)) fun b s2 ⟨H2, I2, q2⟩ => ?_)
  cases b with
  | true =>
    obtain ⟨N, hN, q2⟩ := q2
    rw [if_pos rfl]
    refine wpAny_passesOwn hp (thn (hb pins s2 σ1 H2 _ I2 q2) fun f s3 q3 => ?_)
    cases f with
    | next =>
      obtain ⟨σ3, H3, I3, n3⟩ := q3
      obtain ⟨m', hm, w3⟩ := hN σ3 H3 n3
      exact ⟨m', hm, σ3, H3, I3, w3⟩
    | cont =>
      obtain ⟨σ3, H3, I3, n3⟩ := q3
      obtain ⟨m', hm, w3⟩ := hN σ3 H3 n3
      exact ⟨m', hm, σ3, H3, I3, w3⟩
    | brk => exact q3
    | ret v => exact q3
  | false =>
    rw [if_neg Bool.false_ne_true]
    exact wpAny_execs_nil ⟨σ1, H2, I2, q2⟩
end

/-- at turn i: it yields x (the heap may grow), or it stops -/
structure It where
  go : Nat → Hp → Prop
  yld : Nat → Hp → V → Hp → Prop
  stop : Nat → Hp → Prop
/-- the iterator's own objects may turn: they are not the frame's, not pinned, younger than the entry (or a comprehension's own) -/
def FpOk (X : Cx) (pins : List (Addr × Obj)) (H : Hp) (b : Addr) : Prop :=
  H b = none ∧ b ≠ X.env.locals ∧ b ∉ X.fs ∧ (b ∈ X.ex ∨ X.s₀.heap.objs.size ≤ b) ∧ (∀ x c, X.env.cells.lookup x = some c → c ≠ b) ∧ ∀ p ∈ X.pn ++ pins, p.1 ≠ b
theorem Inv.fpOk {X : Cx} {pins : List (Addr × Obj)} {σ : St} {H H' : Hp} {s : Shared} {b : Addr} (I : Inv X pins σ H s) (hb : s.heap.objs.size ≤ b) (hn : H' b = none) : FpOk X pins H' b := by
  refine ⟨hn, Nat.ne_of_gt (Nat.lt_of_lt_of_le I.lt hb), I.nofs hb, .inr (Nat.le_trans I.sz hb), fun x c e z => ?_, fun p hp z => ?_⟩
  · obtain ⟨v, q⟩ := I.cell x c e
    exact absurd (Nat.lt_of_lt_of_le q.lt (by rw [z]; exact hb)) (Nat.lt_irrefl _)
  · exact absurd (Nat.lt_of_lt_of_le (Heap.lt_size (I.pin p hp).1) (by rw [z]; exact hb)) (Nat.lt_irrefl _)
structure Turn (P : Program) (w : World) (K : PySem.W.Frag) (tg : Expr) (J : It) (fp : List Addr) (it : Addr) (tn : Nat → Heap → Prop) : Prop where
  mem : it ∈ fp
  obj : ∀ i h, tn i h → ∀ b ∈ fp, ∃ o, h.get? b = some o ∧ ∀ v, o.data ≠ .cell v
  keep : ∀ i h h', tn i h → (∀ b ∈ fp, ∀ o, h.get? b = some o → h'.get? b = some o) → tn i h'
  item : ∀ (X : Cx), X.prog = P → X.w = w → X.K = K → X.calm = true → ∀ (i : Nat) (pins : List (Addr × Obj)) (s : Shared) (σ : St) (H : Hp) (E : Value → Shared → Prop), Inv X pins σ H s → (∀ b ∈ fp, FpOk X pins H b) → tn i s.heap → J.go i H →
    wpAny (model P w) X.A (pyNext (.ref it)) (fun r s1 => ∃ u, r = some u ∧
      wpAny (model P w) X.A (letOwnedTupleGo tg (.ref it) u) (fun _ s2 => ∃ x H', Inv X pins σ H' s2 ∧ RelV x u ∧ J.yld i H x H' ∧ tn (i + 1) s2.heap ∧ ∀ b ∈ fp, H' b = none) E s1) E s
  done : ∀ (X : Cx), X.prog = P → X.w = w → X.K = K → X.calm = true → ∀ (i : Nat) (pins : List (Addr × Obj)) (s : Shared) (σ : St) (H : Hp) (E : Value → Shared → Prop), Inv X pins σ H s → (∀ b ∈ fp, FpOk X pins H b) → tn i s.heap → J.stop i H →
    wpAny (model P w) X.A (pyNext (.ref it)) (fun r s1 => r = none ∧ Inv X pins σ H s1) E s
  self : ∀ (A : Around) (i : Nat) (s : Shared) (Q : Value → Shared → Prop) (E : Value → Shared → Prop), tn i s.heap → Q (.ref it) s → wpAny (model P w) A (pyIter (.ref it)) Q E s
abbrev TI := St → Hp → (It → Hp → Prop) → Prop
/-- an iterator has come -/
def PIE (X : Cx) (pins : List (Addr × Obj)) (σ : St) (tg : Expr) (R : It → Hp → Prop) (itv : Value) (s2 : Shared) : Prop :=
  ∃ (it : Addr) (fp : List Addr) (tn : Nat → Heap → Prop) (J : It) (H' : Hp), itv = .ref it ∧ Inv X pins σ H' s2 ∧ Turn X.prog X.w X.K tg J fp it tn ∧ tn 0 s2.heap ∧ (∀ b ∈ fp, FpOk X pins H' b) ∧ R J H'
def PI (X : Cx) (tg iter : Expr) (wi : TI) : Prop :=
  ∀ (pins : List (Addr × Obj)) (s : Shared) (σ : St) (H : Hp) (R : It → Hp → Prop), Inv X pins σ H s → wi σ H R →
    wpAny (model X.prog X.w) X.A (eval iter X.env) (fun v s1 => wpAny (model X.prog X.w) X.A (pyIter v) (PIE X pins σ tg R) X.xe s1) X.xe s

/-- the step ahead of the store is nothing for an iterator that keeps no tuple -/
theorem go_of {M : Model} {A : Around} {E : Value → Shared → Prop} {s : Shared} {tg : Expr} {it : Addr} {u : Value} {o : Obj} {n : String} {vs : Array Value} {Q : Unit → Shared → Prop} (ho : s.heap.get? it = some o) (hc : o.cls = .type n) (hd : o.data = .fields vs)
    (hn : ["enumerate", "zip", "dict_itemiterator", "dict_reverseitemiterator", "odict_iterator", "itertools.zip_longest", "itertools.pairwise"].contains n = false) (hQ : Q () s) : wpAny M A (letOwnedTupleGo tg (.ref it) u) Q E s := by
  unfold letOwnedTupleGo
  cases tg <;> first
    | exact wpAny_pure hQ
    | (cases u <;> first
        | exact wpAny_pure hQ
        | (refine wpAny_bind (wpAny_load ho ?_)
           rw [hc, hd]
           show wpAny M A (if (["enumerate", "zip", "dict_itemiterator", "dict_reverseitemiterator", "odict_iterator", "itertools.zip_longest", "itertools.pairwise"].contains n && vs[0]? == some (rawInt _)) = true then _ else _) Q E s
           rw [if_neg (by intro h; rw [hn, Bool.false_and] at h; cases h)]
           exact wpAny_pure hQ))

/-- the list at a, as it stands at each turn (a loop may append to it) -/
def Itl (K : PySem.W.Frag) (a : Addr) : It :=
  ⟨fun i H => ∃ xs x, SqL K H a xs ∧ xs[i]? = some x, fun i H x H' => H' = H ∧ ∀ xs, SqL K H a xs → xs[i]? = some x, fun i H => ∃ xs, SqL K H a xs ∧ xs.length ≤ i⟩
def Itt (K : PySem.W.Frag) (a : Addr) : It :=
  ⟨fun i H => ∃ xs x, SqT K H a xs ∧ xs[i]? = some x, fun i H x H' => H' = H ∧ ∀ xs, SqT K H a xs → xs[i]? = some x, fun i H => ∃ xs, SqT K H a xs ∧ xs.length ≤ i⟩
/-- lo, lo + 1, .. (n of them) -/
def Itr (lo : Int) (n : Nat) : It := ⟨fun i _ => i < n, fun i H x H' => H' = H ∧ x = .int (lo + i), fun i _ => n ≤ i⟩
theorem turn_list {P : Program} {w : World} {K : PySem.W.Frag} {tg : Expr} (a it : Addr) : Turn P w K tg (Itl K a) [it] it (fun i h => h.IsListIter it a i) where
  mem := by simp
  obj := fun i h st b hb => by
    have e : b = it := by simpa using hb
    subst e
    obtain ⟨o, e, c, d⟩ := st
    exact ⟨o, e, fun v z => by rw [d] at z; cases z⟩
  keep := fun i h h' st k => st.at fun o e => k it (by simp) o e
  item := by
    intro X hP hw hK hc i pins s σ H E I hf st hg
    subst hP hw hK
    obtain ⟨xs, x, hq, hx⟩ := hg
    obtain ⟨its, rv, p, hz⟩ := I.list hq
    obtain ⟨u, hu, ru⟩ := rv.get hx
    obtain ⟨f0, f1, f2, f3, f4, f5⟩ := hf it (by simp)
    refine wpAny_pyNext_list_item st p.isList (x := u) (by simpa using hu) fun h' st' sb => ?_
    have I1 : Inv X pins σ H { s with heap := h' } := I.turned (t' := s.toks) (fun b o hb e => (sb.2 b hb).trans e) f0 f1 f3 f4 f5
    obtain ⟨o, e, c, d⟩ := id st'
    exact ⟨u, rfl, go_of (s := { s with heap := h' }) e c d (by decide) ⟨x, H, I1, ru, ⟨rfl, fun ys hy => by rw [I.list_inj hy hq]; exact hx⟩, st', fun b hb => (hf b hb).1⟩⟩
  done := by
    intro X hP hw hK hc i pins s σ H E I hf st hg
    subst hP hw hK
    obtain ⟨xs, hq, hx⟩ := hg
    obtain ⟨its, rv, p, hz⟩ := I.list hq
    obtain ⟨f0, f1, f2, f3, f4, f5⟩ := hf it (by simp)
    have hl := rv.length
    exact wpAny_pyNext_list_end (I.ok.hd hc) st p.isList (by simp; omega) fun h' eb => ⟨rfl, I.turned (t' := s.toks) (fun b o hb e => eb b o hb e) f0 f1 f3 f4 f5⟩
  self := fun _ _ _ _ _ st h => wpAny_pyIter_listiter st h
theorem turn_tuple {P : Program} {w : World} {K : PySem.W.Frag} {tg : Expr} (a it : Addr) : Turn P w K tg (Itt K a) [it] it (fun i h => h.IsTupleIter it a i) where
  mem := by simp
  obj := fun i h st b hb => by
    have e : b = it := by simpa using hb
    subst e
    obtain ⟨o, e, c, d⟩ := st
    exact ⟨o, e, fun v z => by rw [d] at z; cases z⟩
  keep := fun i h h' st k => st.at fun o e => k it (by simp) o e
  item := by
    intro X hP hw hK hc i pins s σ H E I hf st hg
    subst hP hw hK
    obtain ⟨xs, x, hq, hx⟩ := hg
    obtain ⟨its, rv, p, hz⟩ := I.tuple hq
    obtain ⟨u, hu, ru⟩ := rv.get hx
    obtain ⟨f0, f1, f2, f3, f4, f5⟩ := hf it (by simp)
    refine wpAny_pyNext_tuple_item st (show s.heap.IsTuple a its.toArray from p) (x := u) (by simpa using hu) fun h' st' sb => ?_
    have I1 : Inv X pins σ H { s with heap := h' } := I.turned (t' := s.toks) (fun b o hb e => (sb.2 b hb).trans e) f0 f1 f3 f4 f5
    obtain ⟨o, e, c, d⟩ := id st'
    exact ⟨u, rfl, go_of (s := { s with heap := h' }) e c d (by decide) ⟨x, H, I1, ru, ⟨rfl, fun ys hy => by rw [I.tuple_inj hy hq]; exact hx⟩, st', fun b hb => (hf b hb).1⟩⟩
  done := by
    intro X hP hw hK hc i pins s σ H E I hf st hg
    subst hP hw hK
    obtain ⟨xs, hq, hx⟩ := hg
    obtain ⟨its, rv, p, hz⟩ := I.tuple hq
    obtain ⟨f0, f1, f2, f3, f4, f5⟩ := hf it (by simp)
    have hl := rv.length
    exact wpAny_pyNext_tuple_end (I.ok.hd hc) st (show s.heap.IsTuple a its.toArray from p) (by simp; omega) fun h' eb => ⟨rfl, I.turned (t' := s.toks) (fun b o hb e => eb b o hb e) f0 f1 f3 f4 f5⟩
  self := fun _ _ _ _ _ st h => wpAny_pyIter_tupleiter st h
theorem turn_range {P : Program} {w : World} {K : PySem.W.Frag} {tg : Expr} (it : Addr) (lo : Int) (n : Nat) : Turn P w K tg (Itr lo n) [it] it (fun i h => IsRangeIter h it (lo + (i : Nat) * 1) ((n : Int) - (i : Nat)) 1) where
  mem := by simp
  obj := fun i h st b hb => by
    have e : b = it := by simpa using hb
    subst e
    exact ⟨_, st, fun v z => by
      have z' : Data.fields _ = Data.cell v := z
      cases z'⟩
  keep := fun i h h' st k => k it (by simp) _ st
  item := by
    intro X hP hw hK hc i pins s σ H E I hf st hg
    subst hP hw hK
    obtain ⟨f0, f1, f2, f3, f4, f5⟩ := hf it (by simp)
    have W := Walks.range (prog := X.prog) (w := X.w) (I.ok.hd hc) it lo 1 n
    refine W.item i s _ _ hg st fun v h' tk hv st' kk => ?_
    obtain ⟨t, rfl⟩ := hv
    have I1 : Inv X pins σ H { s with heap := h', toks := tk } := I.turned (fun b o hb e => kk b o (by simpa using hb) e) f0 f1 f3 f4 f5
    refine ⟨_, rfl, go_of (s := { s with heap := h', toks := tk }) (n := "range_iterator") st' rfl rfl (by decide) ⟨.int (lo + i), H, I1, ⟨t, ?_⟩, ⟨rfl, rfl⟩, st', fun b hb => (hf b hb).1⟩⟩
    rw [Int.mul_one]
  done := by
    intro X hP hw hK hc i pins s σ H E I hf st hg
    subst hP hw hK
    obtain ⟨f0, f1, f2, f3, f4, f5⟩ := hf it (by simp)
    exact wpAny_pyNext_range_end (I.ok.hd hc) st (by have : n ≤ i := hg; omega) fun h' eb => ⟨rfl, I.turned (t' := s.toks) (fun b o hb e => eb b o hb e) f0 f1 f3 f4 f5⟩
  self := fun _ _ _ _ _ st h => wpAny_pyIter_rangeiter st h
end L2

namespace L2
open PySem PySem.Spec PyProof.Rows
section
variable {X : Cx} {tg : Expr}
def iList (K : PySem.W.Frag) (tl : TE) : TI := fun σ H R => tl σ H fun x H1 => ∃ a, x = .ref a ∧ (∃ xs, SqL K H1 a xs) ∧ R (Itl K a) H1
def iTup (K : PySem.W.Frag) (tl : TE) : TI := fun σ H R => tl σ H fun x H1 => ∃ a, x = .ref a ∧ (∃ xs, SqT K H1 a xs) ∧ R (Itt K a) H1
theorem pi_list {l : Expr} {tl : TE} (hl : PE X l tl) : PI X tg l (iList X.K tl) := by
  intro pins s σ H R I h
  refine thn (hl pins s σ H _ I h) fun v s1 ⟨x, H1, I1, r1, q1⟩ => ?_
  obtain ⟨a, e, ⟨xs, hq⟩, q⟩ := q1
  subst e
  cases r1
  obtain ⟨its, rv, p, hz⟩ := I1.list hq
  refine wpAny_pyIter_list p.isList ?_
  refine ⟨s1.heap.objs.size, [s1.heap.objs.size], _, _, H1, rfl, I1.kept (t' := s1.toks) fun b o e => Heap.get?_push_of_some _ e, turn_list a _, ⟨_, Heap.get?_push_size _ rfl, rfl, rfl⟩, fun b hb => ?_, q⟩
  have e : b = s1.heap.objs.size := by simpa using hb
  subst e
  exact I1.fpOk (Nat.le_refl _) (I1.hok.fresh (Nat.le_refl _))
theorem pi_tup {l : Expr} {tl : TE} (hl : PE X l tl) : PI X tg l (iTup X.K tl) := by
  intro pins s σ H R I h
  refine thn (hl pins s σ H _ I h) fun v s1 ⟨x, H1, I1, r1, q1⟩ => ?_
  obtain ⟨a, e, ⟨xs, hq⟩, q⟩ := q1
  subst e
  cases r1
  obtain ⟨its, rv, p, hz⟩ := I1.tuple hq
  refine wpAny_pyIter_tuple (show s1.heap.IsTuple a its.toArray from p) ?_
  refine ⟨s1.heap.objs.size, [s1.heap.objs.size], _, _, H1, rfl, I1.kept (t' := s1.toks) fun b o e => Heap.get?_push_of_some _ e, turn_tuple a _, ⟨_, Heap.get?_push_size _ rfl, rfl, rfl⟩, fun b hb => ?_, q⟩
  have e : b = s1.heap.objs.size := by simpa using hb
  subst e
  exact I1.fpOk (Nat.le_refl _) (I1.hok.fresh (Nat.le_refl _))
/-- a range object just made, walked -/
theorem range_it {pins : List (Addr × Obj)} {σ : St} {H : Hp} {s : Shared} {R : It → Hp → Prop} {E : Value → Shared → Prop} {lo hi : Int} {t u v : Tok} {tk : Nat} (I : Inv X pins σ H s) (h1 : -(2 ^ 62) ≤ lo) (h2 : lo < 2 ^ 62) (h3 : -(2 ^ 62) ≤ hi) (h4 : hi < 2 ^ 62)
    (q : R (Itr lo (hi - lo).toNat) H) : wpAny (model X.prog X.w) X.A (pyIter (.ref s.heap.objs.size)) (PIE X pins σ tg R) E { s with heap := s.heap.push { cls := .type "range", data := .fields #[.int lo t, .int hi u, .int 1 v] }, toks := tk } := by
  refine wpAny_pyIter_range (IsRange.new ..) (small_one h1 h2 h3 h4) ?_
  have I1 : Inv X pins σ H { s with heap := s.heap.push { cls := .type "range", data := .fields #[.int lo t, .int hi u, .int 1 v] }, toks := tk } := I.kept fun b o e => Heap.get?_push_of_some _ e
  refine ⟨(s.heap.push { cls := .type "range", data := .fields #[.int lo t, .int hi u, .int 1 v] }).objs.size, [(s.heap.push { cls := .type "range", data := .fields #[.int lo t, .int hi u, .int 1 v] }).objs.size], _, _, H, rfl,
    I1.kept (t' := tk) fun b o e => Heap.get?_push_of_some _ e, turn_range _ lo (hi - lo).toNat, ?_, fun b hb => ?_, q⟩
  · have e1 : lo + ((0 : Nat) : Int) * 1 = lo := by simp
    have e2 : (((hi - lo).toNat : Nat) : Int) - ((0 : Nat) : Int) = Builtin.Range.rangeSize lo hi 1 := by rw [rangeSize_one]; split <;> omega
    show IsRangeIter _ _ (lo + ((0 : Nat) : Int) * 1) ((((hi - lo).toNat : Nat) : Int) - ((0 : Nat) : Int)) 1
    rw [e1, e2]
    exact Heap.get?_push_size _ rfl
  · have e : b = (s.heap.push { cls := .type "range", data := .fields #[.int lo t, .int hi u, .int 1 v] }).objs.size := by simpa using hb
    subst e
    exact I1.fpOk (Nat.le_refl _) (I1.hok.fresh (Nat.le_refl _))
def iRng1 (ta : TA) : TI := fun σ H R => ta σ H fun vs H1 => ∃ j : Int, vs = [.int j] ∧ -(2 ^ 62) ≤ j ∧ j < 2 ^ 62 ∧ R (Itr 0 j.toNat) H1
theorem pi_range1 {a : Expr} {ta : TA} {p pos : Pos} (hg : Gl X "range") (hm : X.mg "range" = none) (ha : PA X [a] ta) (hs : starEach [a] X.env = [(false, eval a X.env)] := by rfl) : PI X tg (.Call (.Name "range" p) [a] [] pos) (iRng1 ta) := by
  intro pins s σ H R I h
  refine Call_ (ld_blt I hg hm boot_range (PyProof.Rows.callWith_type1 (thn (ha pos pins s σ H _ I h) fun us s1 ⟨vs, H1, I1, r1, q1⟩ => ?_) hs rfl))
  obtain ⟨j, e, q1, q2, q⟩ := q1
  subst e
  cases r1 with
  | cons r rr =>
    cases rr
    obtain ⟨t, rfl⟩ := r
    exact call_range_1 (range_it I1 (by omega) (by omega) q1 q2 (by simpa using q))
/-- W: the invariant by the turn and a measure; N: what the body is to reach -/
def tFor (wi : TI) (g : TG) (tb : TS) : TS := fun D σ H => wi σ H fun J H1 => ∃ W : Nat → Nat → St → Hp → Prop, (∃ m, W 0 m σ H1) ∧ ∀ i m σ H, W i m σ H →
  (J.stop i H ∧ D.nx σ H) ∨ (J.go i H ∧ ∃ N : St → Hp → Prop, (∀ σ' H', N σ' H' → ∃ m', m' < m ∧ W (i + 1) m' σ' H') ∧ ∀ x H', J.yld i H x H' → g x σ H' fun σ2 H2 => tb { D with nx := N, ct := N, bk := D.nx } σ2 H2)
/-- the records at fp as they stand -/
def pinsAt (fp : List Addr) (h : Heap) : List (Addr × Obj) := fp.filterMap fun b => (h.get? b).map fun o => (b, o)
theorem mem_pinsAt {fp : List Addr} {h : Heap} {b : Addr} {o : Obj} (hb : b ∈ fp) (e : h.get? b = some o) : (b, o) ∈ pinsAt fp h := List.mem_filterMap.mpr ⟨b, hb, by rw [e]; rfl⟩
theorem of_pinsAt {fp : List Addr} {h : Heap} {p : Addr × Obj} (hp : p ∈ pinsAt fp h) : p.1 ∈ fp ∧ h.get? p.1 = some p.2 := by
  obtain ⟨b, hb, e⟩ := List.mem_filterMap.mp hp
  cases q : h.get? b with
  | none => rw [q] at e; cases e
  | some o =>
    rw [q] at e
    have e' : (b, o) = p := Option.some.inj e
    subst e'
    exact ⟨hb, q⟩
theorem Inv.pinned {pins : List (Addr × Obj)} {σ : St} {H : Hp} {s : Shared} {fp : List Addr} (I : Inv X pins σ H s) (hf : ∀ b ∈ fp, FpOk X pins H b) (ho : ∀ b ∈ fp, ∃ o, s.heap.get? b = some o ∧ ∀ v, o.data ≠ .cell v) : Inv X (pins ++ pinsAt fp s.heap) σ H s :=
  I.pins_of fun p hp => (List.mem_append.mp hp).elim (fun z => I.pin p (List.mem_append_right _ z)) fun z => by
    obtain ⟨hb, e⟩ := of_pinsAt z
    obtain ⟨f0, f1, f2, _⟩ := hf p.1 hb
    obtain ⟨o, e', d⟩ := ho p.1 hb
    rw [e] at e'; cases e'
    exact ⟨e, f0, f1, f2, d⟩
theorem Inv.unpinned {pins pl : List (Addr × Obj)} {σ : St} {H : Hp} {s : Shared} (I : Inv X (pins ++ pl) σ H s) : Inv X pins σ H s := I.pins_of fun p hp => I.pin p (List.mem_append_right _ (List.mem_append_left _ hp))
theorem ps_for {iter : Expr} {body : List Stmt} {wi : TI} {g : TG} {tb : TS} {pos : Pos} (hp : PassesOwn (model X.prog X.w) X.A X.env X.xe) (hc : X.calm = true) (hi : PI X tg iter wi) (hg : PG X tg g) (hb : PSs X body tb)
    (hs : ∀ x, foldedSetIterable iter X.env x = pure x := by intro _; rfl) : PS X (.For tg iter body [] pos) (tFor wi g tb) := by
  intro pins s σ H D I h
  refine wpAny_For (thn (hi pins s σ H _ I h) fun v s1 h1 => thn h1 fun itv s2 h2 => ?_) hs
  obtain ⟨it, fp, tn, J, H2, e, I2, T, st2, f2, W, ⟨m0, w0⟩, turn⟩ := h2
  subst e
  -- what stays true of the iterator's objects through the loop
  have stat : ∀ {H' : Hp}, (∀ b ∈ fp, H' b = none) → ∀ b ∈ fp, FpOk X pins H' b := fun hn b hb => ⟨hn b hb, (f2 b hb).2⟩
  refine codeAny_forLoop_any (fun n s' => ∃ i σ' H', Inv X pins σ' H' s' ∧ tn i s'.heap ∧ (∀ b ∈ fp, H' b = none) ∧ W i n σ' H') ?_ m0 ⟨0, σ, H2, I2, st2, fun b hb => (f2 b hb).1, w0⟩
  rintro n s3 ⟨i, σ3, H3, I3, st3, fr3, w3⟩
  rcases turn i n σ3 H3 w3 with ⟨stop, qn⟩ | ⟨go, N, hN, step⟩
  · refine wpAny_passesOwn hp (thn (T.done X rfl rfl rfl hc i pins s3 σ3 H3 X.xe I3 (stat fr3) st3 stop) fun r s4 ⟨hr, I4⟩ => ?_)
    subst hr
    exact wpAny_execs_nil ⟨σ3, H3, I4, qn⟩
  · refine wpAny_passesOwn hp (thn (T.item X rfl rfl rfl hc i pins s3 σ3 H3 X.xe I3 (stat fr3) st3 go) fun r s4 ⟨u, hr, h4⟩ => ?_)
    subst hr
    refine wpAny_passesOwn hp (thn h4 fun _ s5 ⟨x, H5, I5, r5, y5, st5, fr5⟩ => ?_)
    have I5' := I5.pinned (stat fr5) (T.obj _ _ st5)
    refine wpAny_passesOwn hp (thn (hg _ s5 σ3 H5 x u _ I5' r5 (step x H5 y5)) fun _ s6 ⟨σ6, H6, I6, q6⟩ => ?_)
    refine wpAny_passesOwn hp (thn (hb _ s6 σ6 H6 _ I6 q6) fun f s7 q7 => ?_)
    have again : ∀ {σ7 : St} {H7 : Hp}, Inv X (pins ++ pinsAt fp s5.heap) σ7 H7 s7 → N σ7 H7 → ∃ m, m < n ∧ ∃ i σ' H', Inv X pins σ' H' s7 ∧ tn i s7.heap ∧ (∀ b ∈ fp, H' b = none) ∧ W i m σ' H' := fun {σ7 H7} I7 n7 => by
      obtain ⟨m', hm, w7⟩ := hN σ7 H7 n7
      refine ⟨m', hm, i + 1, σ7, H7, I7.unpinned, T.keep _ _ _ st5 fun b hb o e => (I7.pin (b, o) (List.mem_append_right _ (List.mem_append_right _ (mem_pinsAt hb e)))).1, fun b hb => ?_, w7⟩
      obtain ⟨o, e, d⟩ := T.obj _ _ st5 b hb
      exact (I7.pin (b, o) (List.mem_append_right _ (List.mem_append_right _ (mem_pinsAt hb e)))).2.1
    cases f with
    | next => obtain ⟨σ7, H7, I7, n7⟩ := q7; exact again I7 n7
    | cont => obtain ⟨σ7, H7, I7, n7⟩ := q7; exact again I7 n7
    | brk => obtain ⟨σ7, H7, I7, q7⟩ := q7; exact ⟨σ7, H7, I7.unpinned, q7⟩
    | ret v => obtain ⟨x7, σ7, H7, I7, r7, q7⟩ := q7; exact ⟨x7, σ7, H7, I7.unpinned, r7, q7⟩
end

/-- over a list that the body leaves as it is -/
theorem for_list {K : PySem.W.Frag} {a : Addr} {xs : List V} {g : TG} {tb : TS} {D : Ends} {σ : St} {H : Hp} (Pv : Nat → St → Hp → Prop) (h0 : Pv 0 σ H) (hl : ∀ i σ H, i ≤ xs.length → Pv i σ H → SqL K H a xs)
    (hs : ∀ i x σ H, xs[i]? = some x → Pv i σ H → g x σ H fun σ2 H2 => tb { D with nx := Pv (i + 1), ct := Pv (i + 1), bk := D.nx } σ2 H2) (hd : ∀ σ H, Pv xs.length σ H → D.nx σ H) :
    ∃ W : Nat → Nat → St → Hp → Prop, (∃ m, W 0 m σ H) ∧ ∀ i m σ H, W i m σ H →
      ((Itl K a).stop i H ∧ D.nx σ H) ∨ ((Itl K a).go i H ∧ ∃ N : St → Hp → Prop, (∀ σ' H', N σ' H' → ∃ m', m' < m ∧ W (i + 1) m' σ' H') ∧ ∀ x H', (Itl K a).yld i H x H' → g x σ H' fun σ2 H2 => tb { D with nx := N, ct := N, bk := D.nx } σ2 H2) := by
  refine ⟨fun i m σ H => m = xs.length - i ∧ i ≤ xs.length ∧ Pv i σ H, ⟨xs.length, by simp, Nat.zero_le _, h0⟩, ?_⟩
  rintro i m σ H ⟨rfl, hi, p⟩
  have q := hl i σ H hi p
  by_cases hlt : i < xs.length
  · refine .inr ⟨⟨xs, xs[i], q, by simp [hlt]⟩, Pv (i + 1), fun σ' H' p' => ⟨xs.length - (i + 1), by omega, rfl, hlt, p'⟩, fun x H' y => ?_⟩
    obtain ⟨e, y⟩ := y
    subst e
    exact hs i x σ _ (y xs q) p
  · have e : i = xs.length := by omega
    subst e
    exact .inl ⟨⟨xs, q, Nat.le_refl _⟩, hd σ H p⟩
theorem for_range {lo : Int} {n : Nat} {g : TG} {tb : TS} {D : Ends} {σ : St} {H : Hp} (Pv : Nat → St → Hp → Prop) (h0 : Pv 0 σ H)
    (hs : ∀ i σ H, i < n → Pv i σ H → g (.int (lo + i)) σ H fun σ2 H2 => tb { D with nx := Pv (i + 1), ct := Pv (i + 1), bk := D.nx } σ2 H2) (hd : ∀ σ H, Pv n σ H → D.nx σ H) :
    ∃ W : Nat → Nat → St → Hp → Prop, (∃ m, W 0 m σ H) ∧ ∀ i m σ H, W i m σ H →
      ((Itr lo n).stop i H ∧ D.nx σ H) ∨ ((Itr lo n).go i H ∧ ∃ N : St → Hp → Prop, (∀ σ' H', N σ' H' → ∃ m', m' < m ∧ W (i + 1) m' σ' H') ∧ ∀ x H', (Itr lo n).yld i H x H' → g x σ H' fun σ2 H2 => tb { D with nx := N, ct := N, bk := D.nx } σ2 H2) := by
  refine ⟨fun i m σ H => m = n - i ∧ i ≤ n ∧ Pv i σ H, ⟨n, by simp, Nat.zero_le _, h0⟩, ?_⟩
  rintro i m σ H ⟨rfl, hi, p⟩
  by_cases hlt : i < n
  · refine .inr ⟨hlt, Pv (i + 1), fun σ' H' p' => ⟨n - (i + 1), by omega, rfl, hlt, p'⟩, fun x H' y => ?_⟩
    obtain ⟨e, y⟩ := y
    subst e y
    exact hs i σ _ hlt p
  · have e : i = n := by omega
    subst e
    exact .inl ⟨Nat.le_refl _, hd σ H p⟩
end L2

namespace L2
open PySem PySem.Spec PyProof.Rows

abbrev R2 := V → V → Hp → VK → Prop
/-- a two-place operation on values: f is binaryOp op, inplaceOp op or compareOp op -/
def OpR (X : Cx) (f : Value → Value → Sem Value) (r : R2) : Prop :=
  ∀ (pins : List (Addr × Obj)) (s : Shared) (σ : St) (H : Hp) (x y : V) (v u : Value) (Q : VK), Inv X pins σ H s → RelV x v → RelV y u → r x y H Q →
    wpAny (model X.prog X.w) X.A (f v u) (EP X pins σ Q) X.xe s
/-- a one-place operation -/
def UnR (X : Cx) (f : Value → Sem Value) (r : V → Hp → VK → Prop) : Prop :=
  ∀ (pins : List (Addr × Obj)) (s : Shared) (σ : St) (H : Hp) (x : V) (v : Value) (Q : VK), Inv X pins σ H s → RelV x v → r x H Q →
    wpAny (model X.prog X.w) X.A (f v) (EP X pins σ Q) X.xe s
/-- a call of a value that is known (a builtin, a type) with values -/
def CallR (X : Cx) (f : Value) (r : List V → Hp → VK → Prop) : Prop :=
  ∀ (pins : List (Addr × Obj)) (s : Shared) (σ : St) (H : Hp) (xs : List V) (us : List Value) (Q : VK), Inv X pins σ H s → Vals xs us → r xs H Q →
    wpAny (model X.prog X.w) X.A (call f us) (EP X pins σ Q) X.xe s
def tOp (r : R2) (ta tb : TE) : TE := fun σ H Q => ta σ H fun x H1 => tb σ H1 fun y H2 => r x y H2 Q
def tUn (r : V → Hp → VK → Prop) (ta : TE) : TE := fun σ H Q => ta σ H fun x H1 => r x H1 Q
/-- ints in, under C, and a value out -/
def rI (C : Int → Int → Prop) (g : Int → Int → V) : R2 := fun x y H Q => ∃ i j, x = .int i ∧ y = .int j ∧ C i j ∧ Q (g i j) H
def rI0 (g : Int → Int → V) : R2 := fun x y H Q => ∃ i j, x = .int i ∧ y = .int j ∧ Q (g i j) H
def rU (g : Int → V) : V → Hp → VK → Prop := fun x H Q => ∃ i, x = .int i ∧ Q (g i) H

section
variable {X : Cx} {a b c : Expr} {ta tb tc : TE} {pos : Pos}

theorem binT (ha : PE X a ta) (hb : PE X b tb) {pins : List (Addr × Obj)} {s : Shared} {σ : St} {H : Hp} {R : V → V → Hp → Prop} (I : Inv X pins σ H s)
    (h : ta σ H fun x H1 => tb σ H1 fun y H2 => R x y H2) {Q : Value → Shared → Prop} {f : Value → Value → Sem Value}
    (hf : ∀ v u s2 x y H2, Inv X pins σ H2 s2 → RelV x v → RelV y u → R x y H2 → wpAny (model X.prog X.w) X.A (f v u) Q X.xe s2) :
    wpAny (model X.prog X.w) X.A (eval a X.env) (fun v s₁ => wpAny (model X.prog X.w) X.A (eval b X.env) (fun u s₂ => wpAny (model X.prog X.w) X.A (f v u) Q X.xe s₂) X.xe s₁) X.xe s := by
  refine thn (ha pins s σ H _ I h) fun v s1 ⟨x, H1, I1, r1, q1⟩ => ?_
  refine thn (hb pins s1 σ H1 _ I1 q1) fun u s2 ⟨y, H2, I2, r2, q2⟩ => ?_
  exact hf v u s2 x y H2 I2 r1 r2 q2

theorem pe_op {op : Operator} {r : R2} (ho : OpR X (binaryOp op) r) (ha : PE X a ta) (hb : PE X b tb) : PE X (.BinOp a op b pos) (tOp r ta tb) := by
  intro pins s σ H Q I h
  exact wpAny_BinOp (binT ha hb I h fun v u s2 x y H2 I2 rx ry q => ho pins s2 σ H2 x y v u Q I2 rx ry q)
theorem pe_un {op : UnaryOp} {r : V → Hp → VK → Prop} (ho : UnR X (unaryOp op) r) (ha : PE X a ta) : PE X (.UnaryOp op a pos) (tUn r ta) := by
  intro pins s σ H Q I h
  exact UnaryOp_ (thn (ha pins s σ H _ I h) fun v s1 ⟨x, H1, I1, r1, q1⟩ => ho pins s1 σ H1 x v Q I1 r1 q1)
theorem opI {f : Value → Value → Sem Value} {C : Int → Int → Prop} {g : Int → Int → Int}
    (rule : ∀ (i j : Int) (t u : Tok) (s : Shared) (Q : Value → Shared → Prop) (E : Value → Shared → Prop), C i j → Q (.int (g i j) s.toks) { s with toks := s.toks + 1 } → wpAny (model X.prog X.w) X.A (f (.int i t) (.int j u)) Q E s) :
    OpR X f (rI C fun i j => .int (g i j)) := by
  intro pins s σ H x y v u Q I rx ry h
  obtain ⟨i, j, rfl, rfl, hc, q⟩ := h
  obtain ⟨t, rfl⟩ := rx
  obtain ⟨t', rfl⟩ := ry
  exact rule i j t t' s _ _ hc ⟨.int (g i j), H, I.tok _, ⟨_, rfl⟩, q⟩
theorem opI0 {f : Value → Value → Sem Value} {g : Int → Int → Int}
    (rule : ∀ (i j : Int) (t u : Tok) (s : Shared) (Q : Value → Shared → Prop) (E : Value → Shared → Prop), Q (.int (g i j) s.toks) { s with toks := s.toks + 1 } → wpAny (model X.prog X.w) X.A (f (.int i t) (.int j u)) Q E s) :
    OpR X f (rI0 fun i j => .int (g i j)) := by
  intro pins s σ H x y v u Q I rx ry h
  obtain ⟨i, j, rfl, rfl, q⟩ := h
  obtain ⟨t, rfl⟩ := rx
  obtain ⟨t', rfl⟩ := ry
  exact rule i j t t' s _ _ ⟨.int (g i j), H, I.tok _, ⟨_, rfl⟩, q⟩
theorem opB0 {f : Value → Value → Sem Value} {g : Int → Int → Bool}
    (rule : ∀ (i j : Int) (t u : Tok) (s : Shared) (Q : Value → Shared → Prop) (E : Value → Shared → Prop), Q (.bool (g i j)) s → wpAny (model X.prog X.w) X.A (f (.int i t) (.int j u)) Q E s) :
    OpR X f (rI0 fun i j => .bl (g i j)) := by
  intro pins s σ H x y v u Q I rx ry h
  obtain ⟨i, j, rfl, rfl, q⟩ := h
  obtain ⟨t, rfl⟩ := rx
  obtain ⟨t', rfl⟩ := ry
  exact rule i j t t' s _ _ ⟨.bl (g i j), H, I, rfl, q⟩

def CDiv (i j : Int) : Prop := 0 < j ∧ j < 1073741824
def CPow (i j : Int) : Prop := 0 ≤ j ∧ j ≤ 1000000 ∧ i.natAbs < 2 ^ 64
def CMul (i j : Int) : Prop := (-(2 ^ 64) < i ∧ i < 2 ^ 64) ∨ (-(2 ^ 64) < j ∧ j < 2 ^ 64)
theorem CMul.ok {i j : Int} (h : CMul i j) : IntMulOk i j := by
  rcases h with ⟨h1, h2⟩ | ⟨h1, h2⟩
  · exact .of_left (intBits_le_64 h1 h2)
  · exact .of_right (intBits_le_64 h1 h2)
theorem two_pow_nn (k : Nat) : (0 : Int) ≤ 2 ^ k := by
  rw [two_pow_cast]
  exact Int.natCast_nonneg _

theorem op_add : OpR X (binaryOp .Add) (rI0 fun i j => .int (i + j)) := opI0 fun _ _ _ _ _ _ _ q => add_int q
theorem op_sub : OpR X (binaryOp .Sub) (rI0 fun i j => .int (i - j)) := opI0 fun _ _ _ _ _ _ _ q => sub_int q
theorem op_mul : OpR X (binaryOp .Mult) (rI CMul fun i j => .int (i * j)) := opI fun _ _ _ _ _ _ _ hc q => mul_int q hc.ok
/-- // by a positive divisor -/
theorem op_fdiv : OpR X (binaryOp .FloorDiv) (rI CDiv fun i j => .int (i / j)) := opI fun i j _ _ _ _ _ hc q => by
  have h1 : (0 : Int) < j := hc.1
  have h2 : j < 1073741824 := hc.2
  exact floordiv_int (by omega) (by rw [Int.fdiv_eq_ediv_of_nonneg i (by omega)]; exact q) (.inl (PyProof.noPylong_small (by omega)))
/-- % by a positive divisor of any size -/
theorem op_mod : OpR X (binaryOp .Mod) (rI (fun _ j => 0 < j) fun i j => .int (i % j)) := opI fun i j _ _ _ _ _ hc q => by
  have h1 : (0 : Int) < j := hc
  exact mod_int' (by omega) (by rw [Int.fmod_eq_emod_of_nonneg i (by omega)]; exact q)
theorem op_pow : OpR X (binaryOp .Pow) (rI CPow fun i j => .int (i ^ j.toNat)) := opI fun _ _ _ _ _ _ _ hc q => pow_int_small hc.1 hc.2.1 hc.2.2 q
theorem op_shr : OpR X (binaryOp .RShift) (rI (fun _ j => 0 ≤ j) fun i j => .int (i / 2 ^ j.toNat)) := opI fun i j _ _ _ _ _ hc q =>
  rshift_int hc (by rw [Int.fdiv_eq_ediv_of_nonneg i (two_pow_nn _)]; exact q)
theorem op_and : OpR X (binaryOp .BitAnd) (rI0 fun i j => .int (Builtin.bitAnd i j)) := opI0 fun _ _ _ _ _ _ _ q => and_int q
theorem unI {f : Value → Sem Value} {g : Int → Int}
    (rule : ∀ (i : Int) (t : Tok) (s : Shared) (Q : Value → Shared → Prop) (E : Value → Shared → Prop), Q (.int (g i) s.toks) { s with toks := s.toks + 1 } → wpAny (model X.prog X.w) X.A (f (.int i t)) Q E s) :
    UnR X f (rU fun i => .int (g i)) := by
  intro pins s σ H x v Q I rx h
  obtain ⟨i, rfl, q⟩ := h
  obtain ⟨t, rfl⟩ := rx
  exact rule i t s _ _ ⟨.int (g i), H, I.tok _, ⟨_, rfl⟩, q⟩
theorem un_neg : UnR X (unaryOp .USub) (rU fun i => .int (-i)) := unI fun _ _ _ _ _ q => neg_int q
end

/-- the scalars that == tells apart as data does -/
def scal : V → V → Bool
  | .non, .non => true | .non, .int _ => true | .int _, .non => true | .non, .bl _ => true | .bl _, .non => true | .non, .str _ => true | .str _, .non => true
  | .int _, .int _ => true | .bl _, .bl _ => true | .str _, .str _ => true | .byt _, .byt _ => true
  | .int _, .str _ => true | .str _, .int _ => true | .bl _, .str _ => true | .str _, .bl _ => true
  | _, _ => false
def rEq : R2 := fun x y H Q => scal x y = true ∧ Q (.bl (decide (x = y))) H
def rNe : R2 := fun x y H Q => scal x y = true ∧ Q (.bl (!decide (x = y))) H

theorem dec_int {i j : Int} : decide (V.int i = V.int j) = (i == j) := by
  rw [Bool.eq_iff_iff]
  simp
theorem dec_bl {i j : Bool} : decide (V.bl i = V.bl j) = (i == j) := by
  rw [Bool.eq_iff_iff]
  simp
theorem dec_str {i j : Str} : decide (V.str i = V.str j) = (i == j) := by
  rw [Bool.eq_iff_iff]
  simp
theorem dec_byt {i j : Array UInt8} : decide (V.byt i = V.byt j) = (i.toList == j.toList) := by
  rw [Bool.eq_iff_iff]
  cases i
  cases j
  simp

section
variable {X : Cx} {a b c : Expr} {ta tb tc : TE} {pos : Pos}
theorem fin_bl {pins : List (Addr × Obj)} {σ : St} {H : Hp} {s : Shared} {Q : VK} {k k' : Bool} (I : Inv X pins σ H s) (q : Q (.bl k) H) (e : k = k') : EP X pins σ Q (.bool k') s := by
  subst e
  exact ⟨.bl k, H, I, rfl, q⟩
theorem op_eq : OpR X (compareOp .Eq) rEq := by
  intro pins s σ H x y v u Q I rx ry h
  obtain ⟨hs, q⟩ := h
  cases x with
  | non =>
    cases rx
    cases y with
    | non => cases ry; exact PySem.EqNone.eq_none_none (fin_bl I q (by simp))
    | bl j => cases ry; exact PySem.EqNone.eq_none_bool (fin_bl I q (by simp))
    | int j => obtain ⟨t', rfl⟩ := ry; exact PySem.EqNone.eq_none_int (fin_bl I q (by simp))
    | str j => obtain ⟨t', rfl⟩ := ry; exact PySem.EqNone.eq_none_str (fin_bl I q (by simp))
    | _ => exact absurd (show false = true from hs) Bool.false_ne_true
  | bl i =>
    cases rx
    cases y with
    | non => cases ry; exact PySem.EqNone.eq_bool_none (fin_bl I q (by simp))
    | bl j => cases ry; exact eq_bool (fin_bl I q dec_bl)
    | str j => obtain ⟨t', rfl⟩ := ry; exact PySem.EqMixed.eq_bool_str (fin_bl I q (by simp))
    | _ => exact absurd (show false = true from hs) Bool.false_ne_true
  | int i =>
    obtain ⟨t, rfl⟩ := rx
    cases y with
    | non => cases ry; exact PySem.EqNone.eq_int_none (fin_bl I q (by simp))
    | int j => obtain ⟨t', rfl⟩ := ry; exact eq_int (fin_bl I q dec_int)
    | str j => obtain ⟨t', rfl⟩ := ry; exact PySem.EqMixed.eq_int_str (fin_bl I q (by simp))
    | _ => exact absurd (show false = true from hs) Bool.false_ne_true
  | str i =>
    obtain ⟨t, rfl⟩ := rx
    cases y with
    | non => cases ry; exact PySem.EqNone.eq_str_none (fin_bl I q (by simp))
    | bl j => cases ry; exact PySem.EqMixed.eq_str_bool (fin_bl I q (by simp))
    | int j => obtain ⟨t', rfl⟩ := ry; exact PySem.EqMixed.eq_str_int (fin_bl I q (by simp))
    | str j => obtain ⟨t', rfl⟩ := ry; exact eq_str (fin_bl I q dec_str)
    | _ => exact absurd (show false = true from hs) Bool.false_ne_true
  | byt i =>
    obtain ⟨t, rfl⟩ := rx
    cases y with
    | byt j => obtain ⟨t', rfl⟩ := ry; exact PySem.W.eq_bytes (fin_bl I q dec_byt)
    | _ => exact absurd (show false = true from hs) Bool.false_ne_true
  | _ => cases y <;> exact absurd (show false = true from hs) Bool.false_ne_true
theorem op_ne : OpR X (compareOp .NotEq) rNe := by
  intro pins s σ H x y v u Q I rx ry h
  obtain ⟨hs, q⟩ := h
  cases x with
  | non =>
    cases rx
    cases y with
    | non => cases ry; exact PySem.EqNone.ne_none_none (fin_bl I q (by simp))
    | bl j => cases ry; exact PySem.EqNone.ne_none_bool (fin_bl I q (by simp))
    | int j => obtain ⟨t', rfl⟩ := ry; exact PySem.EqNone.ne_none_int (fin_bl I q (by simp))
    | str j => obtain ⟨t', rfl⟩ := ry; exact PySem.EqNone.ne_none_str (fin_bl I q (by simp))
    | _ => exact absurd (show false = true from hs) Bool.false_ne_true
  | bl i =>
    cases rx
    cases y with
    | non => cases ry; exact PySem.EqNone.ne_bool_none (fin_bl I q (by simp))
    | bl j => cases ry; exact ne_bool (fin_bl I q (congrArg not dec_bl))
    | str j => obtain ⟨t', rfl⟩ := ry; exact PySem.EqMixed.ne_bool_str (fin_bl I q (by simp))
    | _ => exact absurd (show false = true from hs) Bool.false_ne_true
  | int i =>
    obtain ⟨t, rfl⟩ := rx
    cases y with
    | non => cases ry; exact PySem.EqNone.ne_int_none (fin_bl I q (by simp))
    | int j => obtain ⟨t', rfl⟩ := ry; exact ne_int (fin_bl I q (congrArg not dec_int))
    | str j => obtain ⟨t', rfl⟩ := ry; exact PySem.EqMixed.ne_int_str (fin_bl I q (by simp))
    | _ => exact absurd (show false = true from hs) Bool.false_ne_true
  | str i =>
    obtain ⟨t, rfl⟩ := rx
    cases y with
    | non => cases ry; exact PySem.EqNone.ne_str_none (fin_bl I q (by simp))
    | bl j => cases ry; exact PySem.EqMixed.ne_str_bool (fin_bl I q (by simp))
    | int j => obtain ⟨t', rfl⟩ := ry; exact PySem.EqMixed.ne_str_int (fin_bl I q (by simp))
    | str j => obtain ⟨t', rfl⟩ := ry; exact ne_str (fin_bl I q (congrArg not dec_str))
    | _ => exact absurd (show false = true from hs) Bool.false_ne_true
  | byt i =>
    obtain ⟨t, rfl⟩ := rx
    cases y with
    | byt j => obtain ⟨t', rfl⟩ := ry; exact PySem.W.ne_bytes (fin_bl I q (congrArg not dec_byt))
    | _ => exact absurd (show false = true from hs) Bool.false_ne_true
  | _ => cases y <;> exact absurd (show false = true from hs) Bool.false_ne_true

theorem op_lt : OpR X (compareOp .Lt) (rI0 fun i j => .bl (decide (i < j))) := opB0 fun _ _ _ _ _ _ _ q => lt_int q
theorem op_le : OpR X (compareOp .LtE) (rI0 fun i j => .bl (decide (i ≤ j))) := opB0 fun _ _ _ _ _ _ _ q => le_int q
theorem op_gt : OpR X (compareOp .Gt) (rI0 fun i j => .bl (decide (j < i))) := opB0 fun _ _ _ _ _ _ _ q => gt_int q
/-- the one string within the other -/
theorem op_in_str : OpR X (compareOp .In) (fun x y H Q => ∃ i j, x = .str i ∧ y = .str j ∧ Q (.bl (!(Builtin.Str.occurrences j i 0 j.length 1).isEmpty)) H) := by
  intro pins s σ H x y v u Q I rx ry h
  obtain ⟨i, j, rfl, rfl, q⟩ := h
  obtain ⟨t, rfl⟩ := rx
  obtain ⟨t', rfl⟩ := ry
  exact in_str (fin_bl I q rfl)

theorem nomark (b : Expr) {op : CmpOp} (h : op ≠ .In := by decide) (h2 : op ≠ .NotIn := by decide) : behindInMarks op b = false := by
  have e1 : (op == CmpOp.In) = false := by cases op <;> first | rfl | exact absurd rfl h
  have e2 : (op == CmpOp.NotIn) = false := by cases op <;> first | rfl | exact absurd rfl h2
  cases b <;> simp [behindInMarks, e1, e2]
/-- a comparison as a value; hm: nomark b, or (for in, not in) by with_unfolding_all rfl -/
theorem pe_cmpR {op : CmpOp} {r : R2} (ho : OpR X (compareOp op) r) (ha : PE X a ta) (hb : PE X b tb) (hm : behindInMarks op b = false) : PE X (.Compare a [op] [b] pos) (tOp r ta tb) := by
  intro pins s σ H Q I h
  exact wpAny_Compare1 (binT ha hb I h fun v u s2 x y H2 I2 rx ry q => ho pins s2 σ H2 x y v u Q I2 rx ry q) hm
/-- a reading of a value as a test -/
def tTest (t : TE) : TT := fun σ H Q => t σ H fun x H' => ∃ k, x = .bl k ∧ Q k H'
theorem pt_cmpR {op : CmpOp} {r : R2} (ho : OpR X (compareOp op) r) (ha : PE X a ta) (hb : PE X b tb) (hm : behindInMarks op b = false) : PT X (.Compare a [op] [b] pos) (tTest (tOp r ta tb)) := by
  intro pins s σ H Q I h
  refine wpAny_isTrue_Compare1 (thn (ha pins s σ H _ I h) fun v s1 ⟨x, H1, I1, r1, q1⟩ => thn (hb pins s1 σ H1 _ I1 q1) fun u s2 ⟨y, H2, I2, r2, q2⟩ =>
    thn (ho pins s2 σ H2 x y v u _ I2 r1 r2 q2) fun c s3 ⟨z, H3, I3, r3, k, e, q3⟩ => ?_) hm
  subst e
  cases r3
  exact wpAny_truthy_bool ⟨H3, I3, q3⟩
/-- a op1 b op2 c -/
def tChain (r r' : R2) (ta tb tc : TE) : TE := fun σ H Q => ta σ H fun x H1 => tb σ H1 fun y H2 => r x y H2 fun z H3 => ∃ k, z = .bl k ∧
  (if k = true then tc σ H3 fun w' H4 => r' y w' H4 Q else Q (.bl false) H3)
theorem pe_chain {op op' : CmpOp} {r r' : R2} (ho : OpR X (compareOp op) r) (ho' : OpR X (compareOp op') r') (ha : PE X a ta) (hb : PE X b tb) (hc : PE X c tc)
    (hm : lastMarks [op, op'] [b, c] = false := by with_unfolding_all rfl) : PE X (.Compare a [op, op'] [b, c] pos) (tChain r r' ta tb tc) := by
  intro pins s σ H Q I h
  refine Compare_chain (thn (ha pins s σ H _ I h) fun v s1 ⟨x, H1, I1, r1, q1⟩ => chain_link (thn (hb pins s1 σ H1 _ I1 q1) fun u s2 ⟨y, H2, I2, r2, q2⟩ =>
    thn (ho pins s2 σ H2 x y v u _ I2 r1 r2 q2) fun d s3 ⟨z, H3, I3, r3, k, e, q3⟩ => ?_)) hm
  subst e
  cases r3
  refine wpAny_truthy_bool ?_
  cases k with
  | false => exact ite_ff ⟨.bl false, H3, I3, rfl, q3⟩
  | true => exact ite_tt (chain_last (thn (hc pins s3 σ H3 _ I3 q3) fun w' s4 ⟨z', H4, I4, r4, q4⟩ => ho' pins s4 σ H4 y z' u w' Q I4 r2 r4 q4))
theorem pt_chain {op op' : CmpOp} {r r' : R2} (ho : OpR X (compareOp op) r) (ho' : OpR X (compareOp op') r') (ha : PE X a ta) (hb : PE X b tb) (hc : PE X c tc)
    (hm : lastMarks [op, op'] [b, c] = false := by with_unfolding_all rfl) : PT X (.Compare a [op, op'] [b, c] pos) (tTest (tChain r r' ta tb tc)) := by
  intro pins s σ H Q I h
  refine isTrue_chain (thn (ha pins s σ H _ I h) fun v s1 ⟨x, H1, I1, r1, q1⟩ => test_link (thn (hb pins s1 σ H1 _ I1 q1) fun u s2 ⟨y, H2, I2, r2, q2⟩ =>
    thn (ho pins s2 σ H2 x y v u _ I2 r1 r2 q2) fun d s3 ⟨z, H3, I3, r3, k, e, q3⟩ => ?_)) hm
  subst e
  cases r3
  refine wpAny_truthy_bool ?_
  cases k with
  | false =>
    obtain ⟨k', e', q'⟩ := q3
    cases e'
    exact ite_ff ⟨H3, I3, q'⟩
  | true =>
    refine ite_tt (test_last (thn (hc pins s3 σ H3 _ I3 q3) fun w' s4 ⟨z', H4, I4, r4, q4⟩ => thn (ho' pins s4 σ H4 y z' u w' _ I4 r2 r4 q4) fun d' s5 ⟨z2, H5, I5, r5, k2, e2, q5⟩ => ?_))
    subst e2
    cases r5
    exact wpAny_truthy_bool ⟨H5, I5, q5⟩

theorem line63 : (sizeLine : Nat) < 2 ^ 63 := by rw [sizeLine_eq]; decide
theorem op_add_str : OpR X (binaryOp .Add) (fun x y H Q => ∃ i j, x = .str i ∧ y = .str j ∧ i.length + j.length ≤ sizeLine ∧ Q (.str (i ++ j)) H) := by
  intro pins s σ H x y v u Q I rx ry h
  obtain ⟨i, j, rfl, rfl, hz, q⟩ := h
  obtain ⟨t, rfl⟩ := rx
  obtain ⟨t', rfl⟩ := ry
  exact add_str (fun t' tk => ⟨.str (i ++ j), H, I.tok _, ⟨_, rfl⟩, q⟩) hz
theorem vals1 {x : V} {us : List Value} (r : Vals [x] us) : ∃ u, us = [u] ∧ RelV x u := by
  cases r with
  | cons r1 r2 => cases r2; exact ⟨_, rfl, r1⟩
theorem vals2 {x y : V} {us : List Value} (r : Vals [x, y] us) : ∃ u w', us = [u, w'] ∧ RelV x u ∧ RelV y w' := by
  cases r with
  | cons r1 r2 =>
    cases r2 with
    | cons r3 r4 => cases r4; exact ⟨_, _, rfl, r1, r3⟩
theorem call_max2 (hc : X.calm = true) : CallR X (.builtin "max") (fun xs H Q => ∃ i j, xs = [.int i, .int j] ∧ Q (.int (if j > i then j else i)) H) := by
  intro pins s σ H xs us Q I r h
  obtain ⟨i, j, rfl, q⟩ := h
  obtain ⟨u, w', rfl, ⟨t, rfl⟩, ⟨t', rfl⟩⟩ := vals2 r
  refine max_two_ints (I.ok.hd hc) fun h' tk k => ⟨_, H, I.kept k, ?_, q⟩
  by_cases hj : j > i
  · rw [if_pos hj, if_pos hj]; exact ⟨_, rfl⟩
  · rw [if_neg hj, if_neg hj]; exact ⟨_, rfl⟩
theorem call_str_int : CallR X (.type "str") (fun xs H Q => ∃ i, xs = [.int i] ∧ i.natAbs.log2 < 1920 ∧ Q (.str (toString i)) H) := by
  intro pins s σ H xs us Q I r h
  obtain ⟨i, rfl, hz, q⟩ := h
  obtain ⟨u, rfl, t, rfl⟩ := vals1 r
  exact PySem.P.str_of_int hz ⟨.str _, H, I.tok _, ⟨_, rfl⟩, q⟩
end
end L2

namespace L2
open PySem PySem.Spec PyProof.Rows

structure Room (k : Nat) (A : Around) : Prop where
  hd : A.handled = none
  dp : A.depth + 3 * k + 5 < recursionLimit
  un : A.units + 16 * k + 200 < cLine
theorem Room.mono {j k : Nat} {A : Around} (r : Room k A) (h : j ≤ k) : Room j A := ⟨r.hd, by have := r.dp; omega, by have := r.un; omega⟩
theorem Room.deeper {k : Nat} {A : Around} (r : Room (k + 1) A) (env : Env) : Room k (A.deeper env) :=
  ⟨r.hd, by have := r.dp; show A.depth + 1 + 3 * k + 5 < _; omega, by have := r.un; show A.units + 3 + 16 * k + 200 < _; omega⟩
theorem Room.depth {k : Nat} {A : Around} (r : Room k A) : A.depth < recursionLimit := by have := r.dp; omega
theorem Room.units {k : Nat} {A : Around} (r : Room k A) : A.units + 64 < cLine := by have := r.un; omega
def tNil : TA := fun _ H Q => Q [] H
def tCons (ta : TE) (tr : TA) : TA := fun σ H Q => ta σ H fun x H1 => tr σ H1 fun xs H2 => Q (x :: xs) H2
section
variable {X : Cx} {e : Expr} {es : List Expr} {te : TE} {t : TA} {pos : Pos}
theorem pa_nil : PA X [] tNil := fun _ _ _ _ H Q I h => Calls.spliced_nil ⟨[], H, I, .nil, h⟩
theorem pa_cons (ha : PE X e te) (hr : PA X es t) (hs : starEach (e :: es) X.env = (false, eval e X.env) :: starEach es X.env := by rfl) : PA X (e :: es) (tCons te t) := by
  intro pos pins s σ H Q I h
  rw [hs]
  show wpAny _ _ (spliced ((false, eval e X.env) :: backTo pos (starEach es X.env))) _ _ s
  refine Calls.spliced_cons (thn (ha pins s σ H _ I h) fun u s1 ⟨x, H1, I1, r1, q1⟩ => ?_)
  exact thn (hr pos pins s1 σ H1 _ I1 q1) fun us s2 ⟨xs, H2, I2, r2, q2⟩ => ⟨x :: xs, H2, I2, .cons r1 r2, q2⟩

/-- a tuple, a list of written items -/
def tTup (t : TA) : TE := fun σ H Q => t σ H fun xs H1 => xs.length ≤ sizeLine ∧ ∀ p, H1 p = none → Q (.ref p) (upd H1 p (.tup xs))
def tLst (t : TA) : TE := fun σ H Q => t σ H fun xs H1 => xs.length ≤ sizeLine ∧ ∀ p, H1 p = none → Q (.ref p) (upd H1 p (.lst xs))
theorem pe_tup {x1} (h : PA X es t) : PE X (.Tuple es x1 pos) (tTup t) := by
  intro pins s σ H Q I hq
  refine wpAny_Tuple_spliced (thn (h pos pins s σ H _ I hq) fun us s1 ⟨xs, H1, I1, r, z, q⟩ => ⟨by rw [← r.length]; exact z, ?_⟩)
  have hf : H1 s1.heap.objs.size = none := I1.hok.fresh (Nat.le_refl _)
  refine ⟨.ref s1.heap.objs.size, upd H1 s1.heap.objs.size (.tup xs), I1.laid (t' := s1.toks) (fun b u e => Heap.get?_push_of_some _ e) (Nat.le_refl _) ?_, rfl, q _ hf⟩
  exact ⟨z, us, r, ⟨_, Heap.get?_push_size _ rfl, rfl, _, rfl⟩⟩
theorem pe_lst (h : PA X es t) : PE X (.List es pos) (tLst t) := by
  intro pins s σ H Q I hq
  refine wpAny_List_spliced (thn (h pos pins s σ H _ I hq) fun us s1 ⟨xs, H1, I1, r, z, q⟩ => ⟨by rw [← r.length]; exact z, ?_⟩)
  have hf : H1 s1.heap.objs.size = none := I1.hok.fresh (Nat.le_refl _)
  refine ⟨.ref s1.heap.objs.size, upd H1 s1.heap.objs.size (.lst xs), I1.laid (t' := s1.toks) (fun b u e => Heap.get?_push_of_some _ e) (Nat.le_refl _) ?_, rfl, q _ hf⟩
  exact ⟨z, us, 0, r, Heap.get?_push_size _ rfl⟩
end

/-- a def's promise: the bound arguments in the parameters' order, the heap, the wanted end, the wanted exception -/
abbrev Sp := List V → Hp → VK → XK → Prop
/-- how an exception lies behind a call (file 08 gives it): the callers' frames, abstract heap and state ahead of the call, the wish, the exception, the state -/
abbrev CXT := List Env → Hp → Shared → XK → Value → Shared → Prop

/-- the state at a call -/
structure Env0 (P : Program) (w : World) (K : PySem.W.Frag) (mg : Str → Option Value) (base : Heap) (A : Around) (outer : List Env) (s : Shared) (H : Hp) : Prop where
  frames : A.frames = some outer
  mod : Mod K mg base
  bs : ∀ b o, base.get? b = some o → s.heap.get? b = some o ∧ H b = none
  bsz : base.objs.size ≤ s.heap.objs.size
  funs : s.heap.FunFrames base outer
  frf : ∀ b ∈ frs outer, H b = none
  hok : HOk P w H s.heap
  bare : AllBare s.gens
/-- a call's end -/
def CE (outer : List Env) (P : Program) (w : World) (H : Hp) (s : Shared) (Q : VK) (u : Value) (s' : Shared) : Prop :=
  ∃ v H', s'.os = s.os ∧ AllBare s'.gens ∧ Un (frs outer) [] H H' s.heap s'.heap ∧ HOk P w H' s'.heap ∧ RelV v u ∧ Q v H'
def CR (CX : CXT) (outer : List Env) (P : Program) (w : World) (H : Hp) (s : Shared) (Q : VK) (E : XK) (r : Result) (s' : Shared) : Prop :=
  match r with
  | .ok (.ret u) => CE outer P w H s Q u s'
  | .ok _ => False
  | .error e => CX outer H s E e s'
structure FnOk (P : Program) (w : World) (K : PySem.W.Frag) (mg : Str → Option Value) (base : Heap) (CX : CXT) (k : Nat) (f : Addr) (fd : FuncData) (ps : List Str) (sp : Sp) : Prop where
  len : ∀ vs H Q E, sp vs H Q E → vs.length = ps.length
  run : ∀ (A : Around) (outer : List Env) (s : Shared) (H : Hp) (args : Args) (us : List Value) (vs : List V) (Q : VK) (E : XK), Room k A → Env0 P w K mg base A outer s H → BindsTo s fd args (ps.zip us) → Vals vs us → sp vs H Q E →
    codeAny (model P w) A (.call (.ref f) args) (CR CX outer P w H s Q E) s
theorem FnOk.mono {P : Program} {w : World} {K : PySem.W.Frag} {mg : Str → Option Value} {base : Heap} {CX : CXT} {j k : Nat} {f : Addr} {fd : FuncData} {ps : List Str} {sp : Sp} (F : FnOk P w K mg base CX j f fd ps sp) (h : j ≤ k) :
    FnOk P w K mg base CX k f fd ps sp := ⟨F.len, fun A outer s H args us vs Q E hr => F.run A outer s H args us vs Q E (hr.mono h)⟩
section
variable {X : Cx} {pins : List (Addr × Obj)} {σ : St} {H : Hp} {s s' : Shared}
/-- from a body: what a callee wants -/
theorem Inv.env0 (I : Inv X pins σ H s) : Env0 X.prog X.w X.K X.mg X.base X.A X.stack s H :=
  ⟨I.ok.frames, I.ok.mod, I.bs, Nat.le_trans I.ok.bsz I.sz, I.stack, I.stkFree, I.hok, I.bare⟩
/-- behind a call -/
theorem Inv.after {Q : VK} {u : Value} (I : Inv X pins σ H s) (h : CE X.stack X.prog X.w H s Q u s') : EP X pins σ Q u s' := by
  obtain ⟨v, H', os, bare, un, hok, r, q⟩ := h
  obtain ⟨hh, g, d, t, os'⟩ := s'
  obtain rfl : os' = s.os := os
  exact ⟨v, H', I.call (h' := hh) (g' := g) (d' := d) (t' := t) (ch := []) un hok bare (fun b z => absurd z (by simp)), r, q⟩
end

/-- how the parameters are bound: us the positional arguments, kw the keywords' values by name, ds the defaults that fill up -/
def Binds (K : PySem.W.Frag) (fd : FuncData) (ps : List Str) (ds : List Value) : Prop :=
  ∀ (s : Shared) (us : List Value), K.In s.heap → (us ++ ds).length = ps.length → BindsTo s fd ⟨us, []⟩ (ps.zip (us ++ ds))
/-- every parameter is given -/
theorem Binds.all {K : PySem.W.Frag} {fd : FuncData} {ps : List Str} (h : ∀ us : List Value, us.length = ps.length → bindArgs fd ⟨us, []⟩ = pure (ps.zip us)) : Binds K fd ps [] := fun s us _ hl => by
  rw [List.append_nil] at hl ⊢
  exact .of_eq (h us hl)

/-- an exception of a callee reaches what this body wants of exceptions -/
def Passes (CX : CXT) (X : Cx) (E : XK) : Prop := ∀ (pins : List (Addr × Obj)) (σ : St) (H : Hp) (s : Shared) (e : Value) (s' : Shared), Inv X pins σ H s → CX X.stack H s E e s' → X.xe e s'

section
variable {X : Cx} {CX : CXT} {k : Nat} {f C : Addr} {fd : FuncData} {ps : List Str} {sp : Sp} {dvs : List V} {ds : List Value} {E : XK} {x m : Str} {p pos apos : Pos} {e o : Expr} {es : List Expr} {ta : TE} {t : TA}

/-- the callee runs -/
theorem run_fn {pins : List (Addr × Obj)} {σ : St} {H : Hp} {s : Shared} {Q : VK} {us : List Value} {vs : List V} (F : FnOk X.prog X.w X.K X.mg X.base CX k f fd ps sp) (hr : Room k X.A) (hb : Binds X.K fd ps ds) (hd : Vals dvs ds) (hx : Passes CX X E)
    (I : Inv X pins σ H s) (r : Vals vs us) (h : sp (vs ++ dvs) H Q E) : wpAny (model X.prog X.w) X.A (call (.ref f) us) (EP X pins σ Q) X.xe s := by
  have r2 : Vals (vs ++ dvs) (us ++ ds) := r.append hd
  have hl : (us ++ ds).length = ps.length := by rw [← r2.length]; exact F.len _ _ _ _ h
  refine wpAny_call (codeAny_mono (F.run X.A X.stack s H ⟨us, []⟩ (us ++ ds) (vs ++ dvs) Q E hr I.env0 (hb s us I.kIn hl) r2 h) fun r s' hq => ?_)
  cases r with
  | error e => exact hx pins σ H s e s' I hq
  | ok fl =>
    cases fl with
    | ret u => exact I.after hq
    | next => exact False.elim hq
    | brk => exact False.elim hq
    | cont => exact False.elim hq

end

/-- names: the parameters first -/
structure FnScope (N P : List Str) (sc : Scope) : Prop where
  kind : sc.kind = .function
  co : sc.isCoroutine = false
  gen : sc.isGenerator = false
  nd : N.Nodup
  pre : N.take P.length = P
  par : ∀ x ∈ P, sc.names.lookup x = some .local ∨ sc.names.lookup x = some .cell
  nofree : ∀ y ∈ sc.names, y.2 ≠ .free

theorem bindL_out {kindOf : Str → Option NameKind} {x : Str} : ∀ {binds : List (Str × Value)} {m : Str → Option Value}, (∀ v, (x, v) ∉ binds) → bindL kindOf binds m x = m x
  | [], _, _ => rfl
  | (n, v) :: r, m, h => by
    unfold bindL
    rw [bindL_out fun w hw => h w (List.mem_cons_of_mem _ hw)]
    split
    · have : x ≠ n := by rintro rfl; exact h v List.mem_cons_self
      simp [this]
    · rfl
theorem bindC_out {kindOf : Str → Option NameKind} {x : Str} : ∀ {binds : List (Str × Value)} {m : Str → Option Value}, (∀ v, (x, v) ∉ binds) → bindC kindOf binds m x = m x
  | [], _, _ => rfl
  | (n, v) :: r, m, h => by
    unfold bindC
    rw [bindC_out fun w hw => h w (List.mem_cons_of_mem _ hw)]
    split
    · rfl
    · have : x ≠ n := by rintro rfl; exact h v List.mem_cons_self
      simp [this]
theorem bindL_get {kindOf : Str → Option NameKind} {x : Str} {v : Value} : ∀ {P : List Str} {vs : List Value} {i : Nat} {m : Str → Option Value}, P.Nodup → P[i]? = some x → vs[i]? = some v → kindOf x = some .local →
    bindL kindOf (P.zip vs) m x = some v
  | [], _, _, _, _, h, _, _ => by simp at h
  | _ :: _, [], _, _, _, _, h, _ => by simp at h
  | p :: P, w :: vs, 0, m, nd, h1, h2, hk => by
    simp at h1 h2; subst h1; subst h2
    show bindL kindOf ((p, w) :: P.zip vs) m p = _
    unfold bindL
    rw [bindL_out fun v hv => (List.nodup_cons.mp nd).1 (List.of_mem_zip hv).1, if_pos hk]
    simp
  | p :: P, w :: vs, i + 1, m, nd, h1, h2, hk => by
    show bindL kindOf ((p, w) :: P.zip vs) m x = _
    unfold bindL
    exact bindL_get (i := i) (List.nodup_cons.mp nd).2 (by simpa using h1) (by simpa using h2) hk
theorem bindC_get {kindOf : Str → Option NameKind} {x : Str} {v : Value} : ∀ {P : List Str} {vs : List Value} {i : Nat} {m : Str → Option Value}, P.Nodup → P[i]? = some x → vs[i]? = some v → kindOf x ≠ some .local →
    bindC kindOf (P.zip vs) m x = some v
  | [], _, _, _, _, h, _, _ => by simp at h
  | _ :: _, [], _, _, _, _, h, _ => by simp at h
  | p :: P, w :: vs, 0, m, nd, h1, h2, hk => by
    simp at h1 h2; subst h1; subst h2
    show bindC kindOf ((p, w) :: P.zip vs) m p = _
    unfold bindC
    rw [bindC_out fun v hv => (List.nodup_cons.mp nd).1 (List.of_mem_zip hv).1, if_neg hk]
    simp
  | p :: P, w :: vs, i + 1, m, nd, h1, h2, hk => by
    show bindC kindOf ((p, w) :: P.zip vs) m x = _
    unfold bindC
    exact bindC_get (i := i) (List.nodup_cons.mp nd).2 (by simpa using h1) (by simpa using h2) hk

/-- the names' values at the entry -/
def start (N : List Str) (vs : List V) : St := vs.map some ++ List.replicate (N.length - vs.length) none

/-- the context of a def's body, at its entry; an exception leaves the frame, then lies as CX says -/
def cxOf (CX : CXT) (P : Program) (w : World) (K : PySem.W.Frag) (mg : Str → Option Value) (base : Heap) (N : List Str) (qual : Str) (scope : Scope) (f : Addr) (cd : Value) (A : Around) (outer : List Env) (s : Shared) (H : Hp) (E : XK) : Cx where
  prog := P
  w := w
  K := K
  mg := mg
  base := base
  A := A.deeper (envOfC qual scope s.heap.objs.size f cd)
  N := N
  s₀ := s
  H₀ := H
  env := envOfC qual scope s.heap.objs.size f cd
  outer := outer
  stack := envOfC qual scope s.heap.objs.size f cd :: outer
  ex := []
  calm := true
  fn := fun _ => true
  pn := []
  xe := fun e s' => wpAny (model P w) (A.deeper (envOfC qual scope s.heap.objs.size f cd)) (leaving (envOfC qual scope s.heap.objs.size f cd) e) (fun _ s'' => CX outer H s E e s'') (fun e' s'' => CX outer H s E e' s'') s'

theorem cell_has {sc : Scope} {n : Nat} {x : Str} (h : sc.names.lookup x = some .cell) : ∃ c, (cellsFrom n sc.names []).lookup x = some c := by
  have q := PySem.W.cellsFrom_some sc.names n [] (.inl h)
  exact Option.isSome_iff_exists.mp q

theorem inv_start {CX : CXT} {P : Program} {w : World} {K : PySem.W.Frag} {mg : Str → Option Value} {base : Heap} {N ps : List Str} {qual : Str} {scope : Scope} {f : Addr} {cd : Value} {A : Around} {outer : List Env} {s s1 : Shared} {H : Hp} {E : XK} {us : List Value} {vs : List V}
    (S : FnScope N ps scope) (hd : A.handled = none) (e0 : Env0 P w K mg base A outer s H) (hl : vs.length = ps.length) (r : Vals vs us)
    (x : InCallC s s.heap.objs.size (bindL (envOfC qual scope s.heap.objs.size f cd).kindOf (ps.zip us) fun _ => none) (cellsFrom (s.heap.objs.size + 1) scope.names []) (bindC (envOfC qual scope s.heap.objs.size f cd).kindOf (ps.zip us) fun _ => none) s1) :
    Inv (cxOf CX P w K mg base N qual scope f cd A outer s H E) [] (start N vs) H s1 := by
  have hpl : ps.length ≤ N.length := by have := congrArg List.length S.pre; rw [List.length_take] at this; omega
  obtain ⟨h1, tk, rfl, hk⟩ := x.done
  have noA : ∀ b : Addr, b ∉ (cxOf CX P w K mg base N qual scope f cd A outer s H E).ex := fun b z => absurd (show b ∈ ([] : List Addr) from z) (by simp)
  refine ⟨⟨e0.mod, S.kind, rfl, rfl, Nat.le_refl _, fun y z c h1 h2 => ?_, fun y hy => ?_, fun y c _ h => ?_, fun _ => hd, Around.frames_deeper e0.frames, .inr ⟨rfl, rfl⟩, fun b z => absurd z (noA b), e0.bs, e0.bsz, fun b _ _ => noA b, fun b z => absurd z (noA b), e0.funs, e0.frf⟩,
    rfl, e0.bare, Un.kept hk, ⟨_, x.toInCall.ns, fun i y v h1 h2 h3 => ?_⟩, fun y c h => ⟨_, x.cell y c h⟩, e0.hok.fresh (Nat.le_refl _), fun y c h => ?_, fun p hp => absurd (show p ∈ ([] : List (Addr × Obj)) from hp) (by simp), e0.hok.kept hk, ?_⟩
  · exact name_of_addr x.apart (PySem.mem_of_lookup h1) (PySem.mem_of_lookup h2)
  · have hy : scope.names.lookup y = some .cell ∨ scope.names.lookup y = some .free := hy
    rcases hy with hy | hy
    · exact cell_has hy
    · exact absurd rfl (S.nofree _ (PySem.mem_of_lookup hy))
  · exact Nat.le_of_lt (x.above y c (PySem.mem_of_lookup h))
  · have hi : i < vs.length := by
      unfold start at h2
      by_cases hi : i < vs.length
      · exact hi
      · rw [List.getElem?_append_right (by simpa using hi)] at h2
        rw [List.getElem?_replicate] at h2
        split at h2 <;> cases h2
    have ha : vs[i]? = some v := by
      unfold start at h2
      rw [List.getElem?_append_left (by simpa using hi), List.getElem?_map] at h2
      cases e : vs[i]? with
      | none => rw [e] at h2; cases h2
      | some a => rw [e] at h2; cases h2; rfl
    obtain ⟨u, hu, rv⟩ := r.get ha
    have hp : ps[i]? = some y := by
      rw [← S.pre, List.getElem?_take_of_lt (by omega)]; exact h1
    have ndP : ps.Nodup := by rw [← S.pre]; exact S.nd.sublist (List.take_sublist _ _)
    refine ⟨u, rv, ?_⟩
    rcases S.par y (List.mem_of_getElem? hp) with k | k
    · exact .inl ⟨k, bindL_get ndP hp hu k⟩
    · obtain ⟨c, e⟩ := cell_has (n := s.heap.objs.size + 1) k
      refine .inr ⟨.inl k, c, e, ?_⟩
      have q := x.cell y c e
      rw [bindC_get ndP hp hu (by show scope.names.lookup y ≠ _; rw [k]; decide)] at q
      exact q
  · exact e0.hok.fresh (Nat.le_of_lt (x.above y c (PySem.mem_of_lookup h)))
  · unfold start
    show _ = N.length
    rw [List.length_append, List.length_map, List.length_replicate]
    omega

/-- THE RULE: a def (or a method) of the text, by its body. The body's reading t is chosen for each entry; it is run at the parameters' values -/
theorem fn_of {CX : CXT} {P : Program} {w : World} {K : PySem.W.Frag} {mg : Str → Option Value} {base : Heap} {k : Nat} {f : Addr} {name qual : Str} {params : Arguments} {body : List Stmt} {scope : Scope} {dV kV doc pm cdv ct oc : Value} {an od : Option Addr}
    {osl : Array (Option Value)} {N ps : List Str} {sp : Sp} (lk : K.lookup f = some ⟨oc, od, .func (PySem.W.fnOf name qual params body scope dV kV doc pm an cdv ct), osl⟩) (hcd : PySem.W.codeIn K cdv qual = true) (S : FnScope N ps scope)
    (len : ∀ vs H Q E, sp vs H Q E → vs.length = ps.length)
    (hbody : ∀ (A : Around) (outer : List Env) (s : Shared) (H : Hp) (vs : List V) (Q : VK) (E : XK), Room k (A.deeper (envOfC qual scope s.heap.objs.size f cdv)) → sp vs H Q E →
      ∃ t, PSs (cxOf CX P w K mg base N qual scope f cdv A outer s H E) body t ∧ t { nx := fun _ H' => Q .non H', rt := Q } (start N vs) H) :
    FnOk P w K mg base CX (k + 1) f (PySem.W.fnOf name qual params body scope dV kV doc pm an cdv ct) ps sp := by
  refine ⟨len, fun A outer s H args us vs Q E hr e0 hb r hsp => ?_⟩
  have hl := len _ _ _ _ hsp
  have KX : K.In s.heap := e0.mod.kin.keeps fun b o e => (e0.bs b o e).1
  have lim : s.heap.NoLimit := e0.mod.nolimit.keeps fun b o e => (e0.bs b o e).1
  have hkind : ∀ y ∈ ps.zip us, scope.names.lookup y.1 = some .local ∨ (scope.names.lookup y.1 = some .cell ∧ ((cellsFrom (s.heap.objs.size + 1) scope.names []).lookup y.1).isSome = true) := fun ⟨n, v⟩ hy => by
    rcases S.par n (List.of_mem_zip hy).1 with q | q
    · exact .inl q
    · exact .inr ⟨q, PySem.W.cellsFrom_some _ _ _ (.inl q)⟩
  refine codeAny_call_function hr.depth (KX _ _ lk) rfl S.co S.gen rfl (PySem.W.codeRec_of KX hcd) (hb _ _ _ _ ?_)
  refine wpAny_newFunctionEnv_cells S.kind hkind fun env he s1 x => ?_
  subst he
  refine ⟨lim.keeps x.toInCall.keep, codeAny_func ?_⟩
  obtain ⟨t, ht, hq⟩ := hbody A outer s H vs Q E (hr.deeper _) hsp
  have I : Inv (cxOf CX P w K mg base N qual scope f cdv A outer s H E) [] (start N vs) H s1 := inv_start S hr.hd e0 hl r x
  refine wpAny_mono (ht [] s1 (start N vs) H _ I hq) (fun fl s' hs => ?_) fun e s' hs => hs
  have fin : ∀ {σ' : St} {H' : Hp} {v : V} {u : Value}, Inv (cxOf CX P w K mg base N qual scope f cdv A outer s H E) [] σ' H' s' → RelV v u → Q v H' → CE outer P w H s Q u s' :=
    fun {σ' H' v u} J rv q => ⟨v, H', J.os, J.bare, J.base, J.hok, rv, q⟩
  cases fl with
  | ret u =>
    obtain ⟨v, σ', H', J, rv, q⟩ := hs
    exact fin J rv q
  | next =>
    obtain ⟨σ', H', J, q⟩ := hs
    exact fin (v := V.non) (u := Value.none) J rfl q
  | brk =>
    obtain ⟨_, _, _, q⟩ := hs
    exact False.elim q
  | cont =>
    obtain ⟨_, _, _, q⟩ := hs
    exact False.elim q
end L2

namespace L2
open PySem PySem.Spec PyProof.Rows
section
variable {X : Cx} {x : Str} {p pos : Pos} {e : Expr} {es : List Expr} {t : TA} {id T : String} {r : List V → Hp → VK → Prop}

def tCB (r : List V → Hp → VK → Prop) (t : TA) : TE := fun σ H Q => t σ H fun vs H1 => r vs H1 Q
/-- f(e, ..), f a built-in function -/
theorem pe_callB (hc : CallR X (.builtin id) r) (hg : Gl X x) (hm : X.mg x = none) (hv : bootBuiltins x = some (.builtin id)) (ha : PA X (e :: es) t) (hn : x ≠ "__name__" := by decide) (hdb : (x == ("__debug__" : Str)) = false := by decide)
    (he : starEach (e :: es) X.env = (false, eval e X.env) :: starEach es X.env := by rfl) (hpl : (backTo pos (starEach es X.env)).any (·.1) = false := by rfl) : PE X (.Call (.Name x p) (e :: es) [] pos) (tCB r t) := by
  intro pins s σ H Q I h
  refine wpAny_Call_Name_kw (ld_blt I hg hm hv ?_ hn hdb)
  exact PyProof.Rows.callWith_builtin1 (thn (ha pos pins s σ H _ I h) fun us s1 ⟨vs, H1, I1, r1, q1⟩ => hc pins s1 σ H1 vs us Q I1 r1 q1) he hpl
/-- T(e, ..), T a built-in type -/
theorem pe_callTy (hc : CallR X (.type T) r) (hg : Gl X x) (hm : X.mg x = none) (hv : bootBuiltins x = some (.type T)) (ha : PA X (e :: es) t) (hn : x ≠ "__name__" := by decide) (hdb : (x == ("__debug__" : Str)) = false := by decide)
    (he : starEach (e :: es) X.env = (false, eval e X.env) :: starEach es X.env := by rfl) (hpl : (backTo pos (starEach es X.env)).any (·.1) = false := by rfl) : PE X (.Call (.Name x p) (e :: es) [] pos) (tCB r t) := by
  intro pins s σ H Q I h
  refine wpAny_Call_Name_kw (ld_blt I hg hm hv ?_ hn hdb)
  exact PyProof.Rows.callWith_type1 (thn (ha pos pins s σ H _ I h) fun us s1 ⟨vs, H1, I1, r1, q1⟩ => hc pins s1 σ H1 vs us Q I1 r1 q1) he hpl
end
end L2

namespace HT
open PySem PyProof.Rows

section
variable {prog : Program} {w : World} {A : Around} {E : Value → Shared → Prop} {s : Shared}

/-- a slice's bound as a place among n (d where it is left out) -/
def sIx (n d : Nat) : Option Int → Nat
  | none => d
  | some v => if v < 0 then (v + (n : Int)).toNat else min v.toNat n
theorem sIx_le (n d : Nat) (hd : d ≤ n) (o : Option Int) : sIx n d o ≤ n := by
  cases o with
  | none => exact hd
  | some v =>
    show (if v < 0 then (v + (n : Int)).toNat else min v.toNat n) ≤ n
    by_cases hv : v < 0
    · rw [if_pos hv]; omega
    · rw [if_neg hv]; exact Nat.min_le_right _ _
end
end HT

namespace L2
open PySem PySem.Spec PyProof.Rows

abbrev TO := St → Hp → (Option Int → Hp → Prop) → Prop
/-- a slice's part (left out, or an int) -/
def PO (X : Cx) (e : Option Expr) (t : TO) : Prop :=
  ∀ (pins : List (Addr × Obj)) (s : Shared) (σ : St) (H : Hp) (Q : Option Int → Hp → Prop), Inv X pins σ H s → t σ H Q →
    wpAny (model X.prog X.w) X.A (evalPart e X.env) (fun u s' => ∃ o H', Inv X pins σ H' s' ∧ IsPart u o ∧ Q o H') X.xe s
def tNoPart : TO := fun _ H Q => Q none H
def tPart (t : TE) : TO := fun σ H Q => t σ H fun x H1 => ∃ i, x = .int i ∧ Q (some i) H1

theorem intsAre_of {ns : List Int} : ∀ {us : List Value}, Vals (ns.map V.int) us → IntsAre us ns := by
  induction ns with
  | nil => intro us r; rw [List.map_nil] at r; cases r; exact .nil
  | cons n ns ih =>
    intro us r
    rw [List.map_cons] at r
    cases r with
    | cons r1 r2 =>
      obtain ⟨t, e⟩ := r1
      subst e
      exact .cons n t (ih r2)

section
variable {X : Cx} {e : Expr} {te : TE} {lo hi : Option Expr} {tl th : TO} {pos p2 : Pos}

theorem po_none : PO X none tNoPart := by
  intro pins s σ H Q I h
  rw [evalPart_none]
  exact wpAny_pure ⟨none, H, I, .none, h⟩
theorem po_some (h : PE X e te) : PO X (some e) (tPart te) := by
  intro pins s σ H Q I hw
  rw [evalPart_some]
  refine thn (h pins s σ H _ I hw) fun u s1 ⟨x, H1, I1, r1, q1⟩ => ?_
  obtain ⟨i, rfl, q⟩ := q1
  obtain ⟨t, rfl⟩ := r1
  exact ⟨some i, H1, I1, .int i t, q⟩

/-- what a slice of a value is, by values: the slice object stands at sl -/
def SlR (X : Cx) (r : V → Option Int → Option Int → Hp → VK → Prop) : Prop :=
  ∀ (pins : List (Addr × Obj)) (s : Shared) (σ : St) (H : Hp) (x : V) (v vl vu : Value) (lo hi : Option Int) (sl : Addr) (Q : VK), Inv X pins σ H s → RelV x v → s.heap.IsSliceOf sl vl vu .none → IsPart vl lo → IsPart vu hi → r x lo hi H Q →
    ∃ T id, typeLookup (.type T) "__getitem__" = pure (some (.builtin id)) ∧ s.TypeIs v T ∧ wpAny (model X.prog X.w) X.A (getItem v (.ref sl)) (EP X pins σ Q) X.xe s
def tSl (r : V → Option Int → Option Int → Hp → VK → Prop) (te : TE) (tl th : TO) : TE := fun σ H Q => te σ H fun x H1 => tl σ H1 fun l H2 => th σ H2 fun u H3 => r x l u H3 Q
/-- a[lo:hi], any a -/
theorem pe_slice {r : V → Option Int → Option Int → Hp → VK → Prop} (hr : SlR X r) (he : PE X e te) (hl : PO X lo tl) (hu : PO X hi th) : PE X (.Subscript e (.Slice lo hi none p2) pos) (tSl r te tl th) := by
  intro pins s σ H Q I h
  refine Subscript_ (thn (he pins s σ H _ I h) fun v s1 ⟨x, H1, I1, r1, q1⟩ => ?_)
  refine wpAny_Slice (thn (hl pins s1 σ H1 _ I1 q1) fun vl s2 ⟨l, H2, I2, pl, q2⟩ => thn (hu pins s2 σ H2 _ I2 q2) fun vu s3 ⟨u, H3, I3, pu, q3⟩ => ?_)
  rw [evalPart_none]
  refine wpAny_pure ?_
  have I4 : Inv X pins σ H3 { s3 with heap := s3.heap.push { cls := .type "slice", data := .fields #[vl, vu, .none] } } := I3.kept (t' := s3.toks) fun b ob q => Heap.get?_push_of_some _ q
  obtain ⟨T, id, hT, ht, hg⟩ := hr pins { s3 with heap := s3.heap.push { cls := .type "slice", data := .fields #[vl, vu, .none] } } σ H3 x v vl vu l u s3.heap.objs.size Q I4 r1 (Heap.IsSliceOf.new ..) pl pu q3
  show wpAny (model X.prog X.w) X.A (subscriptTail e (.Slice lo hi none p2) v (.ref s3.heap.objs.size)) (EP X pins σ Q) X.xe { s3 with heap := s3.heap.push { cls := .type "slice", data := .fields #[vl, vu, .none] } }
  exact tail_any (ops := [.ref s3.heap.objs.size, v]) ht hT hg (by with_unfolding_all rfl)

end
end L2

namespace L2
open PySem PySem.Spec PyProof.Rows

/-- the place that an index of any sign means -/
def ixN (n : Nat) (i : Int) : Option Nat := if 0 ≤ i then (if i < n then some i.toNat else none) else if -(n : Int) ≤ i then some (i + n).toNat else none
def atI {α : Type} (xs : List α) (i : Int) : Option α := (ixN xs.length i).bind fun j => xs[j]?
theorem ixN_seq {n : Nat} {i : Int} {j : Nat} (h : ixN n i = some j) : seqIndex? i n = some j ∧ j < n ∧ -(n : Int) ≤ i ∧ i < n := by
  unfold ixN at h
  by_cases h0 : 0 ≤ i
  · rw [if_pos h0] at h
    by_cases h1 : i < n
    · rw [if_pos h1] at h
      have e : i.toNat = j := Option.some.inj h
      exact ⟨by rw [seqIndex_of h0 h1, e], by omega, by omega, h1⟩
    · rw [if_neg h1] at h; cases h
  · rw [if_neg h0] at h
    by_cases h1 : -(n : Int) ≤ i
    · rw [if_pos h1] at h
      have e : (i + n).toNat = j := Option.some.inj h
      exact ⟨by rw [seqIndex_neg (by omega) h1, e], by omega, h1, by omega⟩
    · rw [if_neg h1] at h; cases h
theorem atI_get {α : Type} {xs : List α} {i : Int} {v : α} (h : atI xs i = some v) : ∃ j, seqIndex? i xs.length = some j ∧ xs[j]? = some v ∧ j < xs.length ∧ -(xs.length : Int) ≤ i ∧ i < xs.length := by
  unfold atI at h
  cases e : ixN xs.length i with
  | none => rw [e] at h; cases h
  | some j =>
    rw [e] at h
    obtain ⟨h1, h2, h3, h4⟩ := ixN_seq e
    exact ⟨j, h1, h, h2, h3, h4⟩
theorem atI_nat {α : Type} {xs : List α} {j : Nat} {v : α} (h : xs[j]? = some v) : atI xs (j : Int) = some v := by
  have hj : j < xs.length := (List.getElem?_eq_some_iff.mp h).1
  have e : ixN xs.length (j : Int) = some j := by
    unfold ixN
    rw [if_pos (by omega), if_pos (by omega)]; simp
  unfold atI; rw [e]; exact h
/-- what stands as an index of a plain subscript -/
def PlainIx (b : Expr) : Prop := ∀ o i, subscripted b false o i = operate [o, i] (getItem o i)
/-- a subscript by values -/
def IxR (X : Cx) (r : R2) : Prop :=
  ∀ (value slice : Expr) (pins : List (Addr × Obj)) (s : Shared) (σ : St) (H : Hp) (x y : V) (v u : Value) (Q : VK), Inv X pins σ H s → RelV x v → RelV y u → r x y H Q →
    subscripted slice false v u = operate [v, u] (getItem v u) → wpAny (model X.prog X.w) X.A (subscriptTail value slice v u) (EP X pins σ Q) X.xe s
/-- a call of a builtin's method by values: the receiver, the arguments -/
def MtR (X : Cx) (id : String) (r : V → List V → Hp → VK → Prop) : Prop :=
  ∀ (pins : List (Addr × Obj)) (s : Shared) (σ : St) (H : Hp) (x : V) (xs : List V) (v : Value) (us : List Value) (Q : VK), Inv X pins σ H s → RelV x v → Vals xs us → r x xs H Q →
    wpAny (model X.prog X.w) X.A (call (.builtin id) (v :: us)) (EP X pins σ Q) X.xe s
section
variable {X : Cx} {a b : Expr} {ta tb : TE} {pos : Pos}
/-- a[b] -/
theorem pe_ix {r : R2} (hr : IxR X r) (ha : PE X a ta) (hb : PE X b tb) (hs : PlainIx b) : PE X (.Subscript a b pos) (tOp r ta tb) := by
  intro pins s σ H Q I h
  exact Subscript_ (binT ha hb I h fun v u s2 x y H2 I2 rx ry q => hr a b pins s2 σ H2 x y v u Q I2 rx ry q (hs _ _))

def rIxL (K : PySem.W.Frag) : R2 := fun x y H Q => ∃ p xs i v, x = .ref p ∧ y = .int i ∧ SqL K H p xs ∧ atI xs i = some v ∧ Q v H
def rIxT (K : PySem.W.Frag) : R2 := fun x y H Q => ∃ p xs i v, x = .ref p ∧ y = .int i ∧ SqT K H p xs ∧ atI xs i = some v ∧ Q v H
def rIxS : R2 := fun x y H Q => ∃ z i c, x = .str z ∧ y = .int i ∧ z.length ≤ sizeLine ∧ atI z.cps.toList i = some c ∧ Q (.str ⟨#[c]⟩) H
theorem ix_list : IxR X (rIxL X.K) := by
  intro value slice pins s σ H x y v u Q I rx ry h hs
  obtain ⟨p, xs, i, z, rfl, rfl, hq, he, q⟩ := h
  cases rx
  obtain ⟨t, rfl⟩ := ry
  obtain ⟨its, r, pl, hz⟩ := I.list hq
  obtain ⟨j, h1, h2, h3, h4, h5⟩ := atI_get he
  obtain ⟨w, ew, rw'⟩ := r.get h2
  have hl := r.length
  have hn := line63
  have fin : EP X pins σ Q w s := ⟨z, H, I, rw', q⟩
  by_cases h0 : 0 ≤ i
  · have hj : i.toNat = j := by
      rw [seqIndex_of h0 h5] at h1
      exact Option.some.inj h1
    exact item_listR pl.isList h0 (by omega) (by rw [hj]; simpa using ew) fin hs
  · have hj : (i + (its.toArray.size : Int)).toNat = j := by
      rw [seqIndex_neg (by omega) h4] at h1
      rw [List.size_toArray, ← hl]
      exact Option.some.inj h1
    exact subscriptTail_builtinR (x := w) pl.isList.typeIs slot_list_getitem.lookup
      (wpAny_getItem_list_neg (Q := fun r s' => r = w ∧ EP X pins σ Q r s') pl.isList (by omega) (by rw [List.size_toArray] <;> omega) (by omega) (by rw [hj]; simpa using ew) ⟨rfl, fin⟩) hs
theorem ix_tup : IxR X (rIxT X.K) := by
  intro value slice pins s σ H x y v u Q I rx ry h hs
  obtain ⟨p, xs, i, z, rfl, rfl, hq, he, q⟩ := h
  cases rx
  obtain ⟨t, rfl⟩ := ry
  obtain ⟨its, r, pl, hz⟩ := I.tuple hq
  obtain ⟨j, h1, h2, h3, h4, h5⟩ := atI_get he
  obtain ⟨w, ew, rw'⟩ := r.get h2
  have hl := r.length
  have hn := line63
  have fin : EP X pins σ Q w s := ⟨z, H, I, rw', q⟩
  exact subscriptTail_builtinR (x := w) pl.typeIs slot_tuple_getitem.lookup
    (getItem_tuple (j := j) (Q := fun r s' => r = w ∧ EP X pins σ Q r s') pl (by omega) (by omega) (by rw [List.size_toArray, ← hl]; exact h1) (by simpa using ew) ⟨rfl, fin⟩) hs
theorem ix_str : IxR X rIxS := by
  intro value slice pins s σ H x y v u Q I rx ry h hs
  obtain ⟨z, i, c, rfl, rfl, hz, he, q⟩ := h
  obtain ⟨t, rfl⟩ := rx
  obtain ⟨t', rfl⟩ := ry
  obtain ⟨j, h1, h2, h3, h4, h5⟩ := atI_get he
  have hl : z.cps.toList.length = z.length := by simp [Str.length]
  rw [hl] at h1 h4 h5
  have hn := line63
  exact tail_any (typeIs_str s z t) slot_str_getitem.lookup (getItem_str (c := c) (by
    have e1 : decide (i < -(2 ^ 63 : Int)) = false := decide_eq_false (by omega)
    have e2 : decide (i ≥ 2 ^ 63) = false := decide_eq_false (by omega)
    rw [e1, e2, Bool.or_false]) (by rw [h1]; simpa using h2) ⟨.str ⟨#[c]⟩, H, I.tok _, ⟨_, rfl⟩, q⟩) hs
/-- the list's object behind a store -/
theorem mapSeq_set (its : List Value) (n j : Nat) (u : Value) : Obj.mapSeq (·.setIfInBounds j u) { cls := .type "list", data := .seq its.toArray n } = { cls := .type "list", data := .seq (its.set j u).toArray n } := by
  simp [Obj.mapSeq]
theorem Inv.lst {pins : List (Addr × Obj)} {σ : St} {H : Hp} {s : Shared} {p : Addr} {xs : List V} (I : Inv X pins σ H s) (h : H p = some (.lst xs)) :
    ∃ (its : List Value) (n : Nat), Vals xs its ∧ s.heap.get? p = some { cls := .type "list", data := .seq its.toArray n } ∧ xs.length ≤ sizeLine := by
  obtain ⟨z, its, n, r, e⟩ := I.hok p _ h
  exact ⟨its, n, r, e, z⟩
/-- the list at p is written by an update of its object -/
theorem Inv.lstUpd {pins : List (Addr × Obj)} {σ : St} {H : Hp} {s : Shared} {p : Addr} {xs ys : List V} {its its' : List Value} {n n' : Nat} {f : Obj → Obj} (I : Inv X pins σ H s) (h : H p = some (.lst xs))
    (ho : s.heap.get? p = some { cls := .type "list", data := .seq its.toArray n }) (hf : f { cls := .type "list", data := .seq its.toArray n } = { cls := .type "list", data := .seq its'.toArray n' }) (r : Vals ys its') (hz : ys.length ≤ sizeLine) (t : Nat) :
    Inv X pins σ (upd H p (.lst ys)) { s with heap := s.heap.update p f, toks := t } := by
  have e : (s.heap.update p f).get? p = some { cls := .type "list", data := .seq its'.toArray n' } := by
    rw [Heap.get?_update_self f ho (by rw [hf] <;> rfl), hf]
  refine I.write (x := p) (e := p) (by rw [h]; trivial) (.inl rfl) (fun b u hb q => (Heap.get?_update_other _ _ (Ne.symm hb)).trans q) ⟨_, e⟩ ?_
  exact ⟨hz, its', n', r, e⟩
def rSetL : V → V → V → Hp → (Hp → Prop) → Prop := fun o i v H Q => ∃ p xs k j, o = .ref p ∧ i = .int k ∧ H p = some (.lst xs) ∧ ixN xs.length k = some j ∧ Q (upd H p (.lst (xs.set j v)))
theorem set_list : PSet X rSetL := by
  intro pins s σ H o i v ov iv u Q I ro ri rv h
  obtain ⟨p, xs, k, j, rfl, rfl, hp, hj, q⟩ := h
  cases ro
  obtain ⟨t, rfl⟩ := ri
  obtain ⟨its, n, r, ho, hz⟩ := I.lst hp
  obtain ⟨h1, h2, h3, h4⟩ := ixN_seq hj
  have hl := r.length
  have hn := line63
  have I' : Inv X pins σ (upd H p (.lst (xs.set j v))) { s with heap := s.heap.update p (Obj.mapSeq (·.setIfInBounds j u)) } :=
    I.lstUpd hp ho (mapSeq_set its n j u) (r.set rv j) (by rw [List.length_set]; exact hz) s.toks
  by_cases h0 : 0 ≤ k
  · have hk : k.toNat = j := by
      rw [seqIndex_of h0 h4] at h1
      exact Option.some.inj h1
    exact PySem.W.ki_setAt ho h0 (by omega) (by rw [List.size_toArray, ← hl]; exact h4) (by rw [hk]; exact ⟨_, I', q⟩)
  · have hk : (k + (its.toArray.size : Int)).toNat = j := by
      rw [seqIndex_neg (by omega) h3] at h1
      rw [List.size_toArray, ← hl]
      exact Option.some.inj h1
    exact PySem.W.ki_setBack ho (by omega) (by rw [List.size_toArray, ← hl]; exact h3) (by omega) (by rw [hk]; exact ⟨_, I', q⟩)

def flatV : V → Bool
  | .non => true
  | .bl _ => true
  | .int _ => true
  | .str _ => true
  | _ => false
/-- == of flat values -/
def eqV : V → V → Bool
  | .non, .non => true
  | .bl a, .bl b => a == b
  | .bl a, .int b => (if a then 1 else 0) == b
  | .int a, .bl b => a == (if b then 1 else 0)
  | .int a, .int b => a == b
  | .str a, .str b => a == b
  | _, _ => false
theorem eqAt_V {A : Around} {s : Shared} {y x : V} {u v : Value} (ry : RelV y u) (rx : RelV x v) (fy : flatV y = true) (fx : flatV x = true) : SeqAt.EqAt A s u v (eqV y x) := by
  cases y with
  | non =>
    cases ry
    cases x with
    | non => cases rx; exact SeqAt.EqAt.same _
    | bl b => cases rx; exact SeqAt.EqAt.none_bool b
    | int b => obtain ⟨t, rfl⟩ := rx; exact SeqAt.EqAt.none_int b t
    | str b => obtain ⟨t, rfl⟩ := rx; exact SeqAt.EqAt.none_str b t
    | _ => exact absurd (show false = true from fx) Bool.false_ne_true
  | bl a =>
    cases ry
    cases x with
    | non => cases rx; exact SeqAt.EqAt.bool_none a
    | bl b => cases rx; exact SeqAt.EqAt.bool_bool a b
    | int b => obtain ⟨t, rfl⟩ := rx; exact SeqAt.EqAt.bool_int a b t
    | str b => obtain ⟨t, rfl⟩ := rx; exact SeqAt.EqAt.bool_str a b t
    | _ => exact absurd (show false = true from fx) Bool.false_ne_true
  | int a =>
    obtain ⟨t', rfl⟩ := ry
    cases x with
    | non => cases rx; exact SeqAt.EqAt.int_none a t'
    | bl b => cases rx; exact SeqAt.EqAt.int_bool a t' b
    | int b => obtain ⟨t, rfl⟩ := rx; exact SeqAt.EqAt.int_int a t' b t
    | str b => obtain ⟨t, rfl⟩ := rx; exact SeqAt.EqAt.int_str a t' b t
    | _ => exact absurd (show false = true from fx) Bool.false_ne_true
  | str a =>
    obtain ⟨t', rfl⟩ := ry
    cases x with
    | non => cases rx; exact SeqAt.EqAt.str_none a t'
    | bl b => cases rx; exact SeqAt.EqAt.str_bool a t' b
    | int b => obtain ⟨t, rfl⟩ := rx; exact SeqAt.EqAt.str_int a t' b t
    | str b => obtain ⟨t, rfl⟩ := rx; exact SeqAt.EqAt.str_str a t' b t
    | _ => exact absurd (show false = true from fx) Bool.false_ne_true
  | _ => exact absurd (show false = true from fy) Bool.false_ne_true
/-- the items' answers, read off the values (a value's own answer does not lean on its token) -/
def eqU (x : V) (u : Value) : Bool := match u with
  | .none => eqV .non x
  | .bool b => eqV (.bl b) x
  | .int i _ => eqV (.int i) x
  | .str z _ => eqV (.str z) x
  | _ => false
theorem eqU_of {x y : V} {u : Value} (r : RelV y u) (f : flatV y = true) : eqU x u = eqV y x := by
  cases y with
  | non => cases r; rfl
  | bl b => cases r; rfl
  | int i => obtain ⟨t, rfl⟩ := r; rfl
  | str z => obtain ⟨t, rfl⟩ := r; rfl
  | _ => exact absurd (show false = true from f) Bool.false_ne_true
theorem any_eqU {x : V} : ∀ {xs : List V} {us : List Value}, Vals xs us → xs.all flatV = true → us.any (eqU x) = xs.any fun y => eqV y x
  | _, _, .nil, _ => rfl
  | y :: xs, u :: us, .cons r t, f => by
    rw [List.all_cons, Bool.and_eq_true] at f
    rw [List.any_cons, List.any_cons, eqU_of r f.1, any_eqU t f.2]
theorem mem_eqAt {A : Around} {s : Shared} {x : V} {v : Value} (rx : RelV x v) (fx : flatV x = true) : ∀ {xs : List V} {us : List Value}, Vals xs us → xs.all flatV = true → ∀ u ∈ us, SeqAt.EqAt A s u v (eqU x u)
  | _, _, .nil, _ => fun u hu => by cases hu
  | y :: xs, u :: us, .cons r t, f => fun u' hu => by
    rw [List.all_cons, Bool.and_eq_true] at f
    rcases List.mem_cons.mp hu with rfl | hu
    · rw [eqU_of r f.1]; exact eqAt_V r rx f.1 fx
    · exact mem_eqAt rx fx t f.2 u' hu
def inV (x : V) (xs : List V) : Bool := xs.any fun y => eqV y x
/-- x in a list or tuple of flat items -/
def rIn (K : PySem.W.Frag) (neg : Bool) : R2 := fun x y H Q => ∃ p xs, y = .ref p ∧ (SqL K H p xs ∨ SqT K H p xs) ∧ flatV x = true ∧ xs.all flatV = true ∧ Q (.bl (if neg then !inV x xs else inV x xs)) H
theorem op_in_seq : OpR X (compareOp .In) (rIn X.K false) := by
  intro pins s σ H x y v u Q I rx ry h
  obtain ⟨p, xs, rfl, hq, fx, fs, q⟩ := h
  cases ry
  rcases hq with hq | hq
  · obtain ⟨its, r, pl, hz⟩ := I.list hq
    refine SeqAt.in_listAt (eqU x) pl.isList (fun w hw => mem_eqAt rx fx r fs w (by simpa using hw)) ⟨.bl _, H, I, rfl, ?_⟩
    rw [show its.toArray.any (eqU x) = its.any (eqU x) by simp, any_eqU r fs]
    exact q
  · obtain ⟨its, r, pl, hz⟩ := I.tuple hq
    refine SeqAt.in_tupleAt (eqU x) pl (fun w hw => mem_eqAt rx fx r fs w (by simpa using hw)) ⟨.bl _, H, I, rfl, ?_⟩
    rw [show its.toArray.any (eqU x) = its.any (eqU x) by simp, any_eqU r fs]
    exact q
theorem op_notIn_seq : OpR X (compareOp .NotIn) (rIn X.K true) := by
  intro pins s σ H x y v u Q I rx ry h
  obtain ⟨p, xs, rfl, hq, fx, fs, q⟩ := h
  cases ry
  rcases hq with hq | hq
  · obtain ⟨its, r, pl, hz⟩ := I.list hq
    refine SeqAt.notIn_listAt (eqU x) pl.isList (fun w hw => mem_eqAt rx fx r fs w (by simpa using hw)) ⟨.bl _, H, I, rfl, ?_⟩
    rw [show its.toArray.any (eqU x) = its.any (eqU x) by simp, any_eqU r fs]
    exact q
  · obtain ⟨its, r, pl, hz⟩ := I.tuple hq
    refine SeqAt.notIn_tupleAt (eqU x) pl (fun w hw => mem_eqAt rx fx r fs w (by simpa using hw)) ⟨.bl _, H, I, rfl, ?_⟩
    rw [show its.toArray.any (eqU x) = its.any (eqU x) by simp, any_eqU r fs]
    exact q
theorem call_len_seq : CallR X (.builtin "len") (fun xs H Q => ∃ p ys, xs = [.ref p] ∧ (SqL X.K H p ys ∨ SqT X.K H p ys) ∧ Q (.int ys.length) H) := by
  intro pins s σ H xs us Q I r h
  obtain ⟨p, ys, rfl, hq, q⟩ := h
  obtain ⟨u, rfl, rx⟩ := vals1 r
  cases rx
  have hn := line63
  rcases hq with hq | hq
  · obtain ⟨its, r', pl, hz⟩ := I.list hq
    have hlen := r'.length
    exact Calls.call_len_list pl.isList (by simp only [List.size_toArray] <;> omega) ⟨.int ys.length, H, I.tok _, ⟨s.toks + 1, by rw [List.size_toArray, hlen]⟩, q⟩
  · obtain ⟨its, r', pl, hz⟩ := I.tuple hq
    have hlen := r'.length
    exact len_tuple pl (by simp only [List.size_toArray] <;> omega) ⟨.int ys.length, H, I.tok _, ⟨s.toks + 1, by rw [List.size_toArray, hlen]⟩, q⟩
theorem call_len_str : CallR X (.builtin "len") (fun xs H Q => ∃ z, xs = [.str z] ∧ z.length ≤ sizeLine ∧ Q (.int z.length) H) := by
  intro pins s σ H xs us Q I r h
  obtain ⟨z, rfl, hz, q⟩ := h
  obtain ⟨u, rfl, t, rfl⟩ := vals1 r
  have hn := line63
  exact len_str (by omega) ⟨.int z.length, H, I.tok _, ⟨_, rfl⟩, q⟩
theorem call_list_of : CallR X (.type "list") (fun xs H Q => ∃ p ys, xs = [.ref p] ∧ (SqL X.K H p ys ∨ SqT X.K H p ys) ∧ ∀ l, H l = none → Q (.ref l) (upd H l (.lst ys))) := by
  intro pins s σ H xs us Q I r h
  obtain ⟨p, ys, rfl, hq, q⟩ := h
  obtain ⟨u, rfl, rx⟩ := vals1 r
  cases rx
  have fin : ∀ (its : List Value), Vals ys its → ys.length ≤ sizeLine → ∀ (h' : Heap) (c' : Nat), (∀ b o', s.heap.get? b = some o' → h'.get? b = some o') →
      h'.get? s.heap.objs.size = some { cls := .type "list", dict := none, data := .seq its.toArray c', slots := #[] } → EP X pins σ Q (.ref s.heap.objs.size) { s with heap := h' } := fun its r' hz h' c' kp e =>
    ⟨.ref s.heap.objs.size, _, I.laid (t' := s.toks) kp (Nat.le_refl _) (show ObjOk X.prog X.w _ h' _ (.lst ys) from ⟨hz, its, c', r', e⟩), rfl, q _ (I.hok.fresh (Nat.le_refl _))⟩
  rcases hq with hq | hq
  · obtain ⟨its, r', pl, hz⟩ := I.list hq
    have hlen := r'.length
    obtain ⟨o, ho, hc, n, hd⟩ := pl.isList
    exact call_list_seq p (.inl rfl) ho hc hd (fun h' c' kp e => fin its r' hz h' c' kp e) (by simp only [List.size_toArray] <;> omega)
  · obtain ⟨its, r', pl, hz⟩ := I.tuple hq
    have hlen := r'.length
    obtain ⟨o, ho, hc, n, hd⟩ := pl
    exact call_list_seq p (.inr rfl) ho hc hd (fun h' c' kp e => fin its r' hz h' c' kp e) (by simp only [List.size_toArray] <;> omega)
theorem call_tuple_of : CallR X (.type "tuple") (fun xs H Q => ∃ p ys, xs = [.ref p] ∧ ((SqL X.K H p ys ∧ ∀ l, H l = none → Q (.ref l) (upd H l (.tup ys))) ∨ (SqT X.K H p ys ∧ Q (.ref p) H))) := by
  intro pins s σ H xs us Q I r h
  obtain ⟨p, ys, rfl, h⟩ := h
  obtain ⟨u, rfl, rx⟩ := vals1 r
  cases rx
  rcases h with ⟨hq, q⟩ | ⟨hq, q⟩
  · obtain ⟨its, r', pl, hz⟩ := I.list hq
    have hlen := r'.length
    refine call_tuple_list pl.isList (fun h' kp => ?_) (by simp only [List.size_toArray] <;> omega)
    have I1 : Inv X pins σ H { s with heap := h' } := I.kept (t' := s.toks) kp
    have I2 : Inv X pins σ (upd H h'.objs.size (.tup ys)) { s with heap := h'.push { cls := .type "tuple", data := .seq its.toArray } } :=
      I1.laid (t' := s.toks) (fun b o e => Heap.get?_push_of_some _ e) (Nat.le_refl _) (show ObjOk X.prog X.w _ _ _ (.tup ys) from ⟨hz, its, r', IsTup.new _ _⟩)
    exact ⟨.ref h'.objs.size, _, I2, rfl, q _ (I1.hok.fresh (Nat.le_refl _))⟩
  · obtain ⟨its, r', pl, hz⟩ := I.tuple hq
    exact call_tuple_same pl ⟨.ref p, H, I, rfl, q⟩

/-- the value is of that builtin type -/
def tyV (K : PySem.W.Frag) (T : String) (x : V) (H : Hp) : Prop := match x with
  | .str _ => T = "str"
  | .int _ => T = "int"
  | .ref p => (T = "list" ∧ ∃ xs, SqL K H p xs) ∨ (T = "tuple" ∧ ∃ o, K.lookup p = some o ∧ o.cls = .type "tuple" ∧ o.dict = none) ∨
      (T = "dict" ∧ ((∃ kvs, H p = some (.dK kvs)) ∨ ∃ kvs, H p = some (.dT kvs))) ∨ (T = "set" ∧ ∃ S n, H p = some (.set S n))
  | _ => False
theorem tyV_is {pins : List (Addr × Obj)} {σ : St} {H : Hp} {s : Shared} {T : String} {x : V} {v : Value} (I : Inv X pins σ H s) (r : RelV x v) (ty : tyV X.K T x H) :
    s.TypeIs v T ∧ ∀ a, v = .ref a → ∃ ob, s.heap.get? a = some ob ∧ ob.dict = none := by
  cases x with
  | str z =>
    obtain ⟨t, rfl⟩ := r
    cases (show T = "str" from ty)
    exact ⟨typeIs_str s z t, fun _ e => nomatch e⟩
  | int i =>
    obtain ⟨t, rfl⟩ := r
    cases (show T = "int" from ty)
    exact ⟨typeIs_int s i t, fun _ e => nomatch e⟩
  | ref p =>
    cases r
    rcases ty with ⟨rfl, xs, hq⟩ | ⟨rfl, o, hk, hc, hd⟩ | ⟨rfl, hk⟩ | ⟨rfl, S, n, hk⟩
    · obtain ⟨its, _, pl, _⟩ := I.list hq
      refine ⟨pl.isList.typeIs, fun a e => ?_⟩
      cases e
      obtain ⟨o, n, e, c, hd, _⟩ := pl
      exact ⟨o, e, hd⟩
    · refine ⟨⟨o, I.kIn p o hk, hc⟩, fun a e => ?_⟩
      cases e
      exact ⟨o, I.kIn _ o hk, hd⟩
    · have z : ∃ o, s.heap.get? p = some o ∧ o.ExactDict := by
        rcases hk with ⟨kvs, hk⟩ | ⟨kvs, hk⟩
        · obtain ⟨_, _, _, _, o, _, _, e, ex, _⟩ := I.hok p _ hk
          exact ⟨o, e, ex⟩
        · obtain ⟨_, _, _, _, o, _, _, e, ex, _⟩ := I.hok p _ hk
          exact ⟨o, e, ex⟩
      obtain ⟨o, e, ex⟩ := z
      refine ⟨⟨o, e, ex.1⟩, fun a e2 => ?_⟩
      cases e2
      exact ⟨o, e, ex.2.1⟩
    · obtain ⟨o, _, _, _, e, ex, _⟩ := I.hok p _ hk
      refine ⟨⟨o, e, ex.1⟩, fun a e2 => ?_⟩
      cases e2
      exact ⟨o, e, ex.2.1⟩
  | _ => exact False.elim ty
def tBM (K : PySem.W.Frag) (T : String) (r : V → List V → Hp → VK → Prop) (to : TE) (t : TA) : TE := fun σ H Q => to σ H fun x H1 => tyV K T x H1 ∧ t σ H1 fun xs H2 => r x xs H2 Q
variable {o e : Expr} {es : List Expr} {to : TE} {t : TA} {name : Str} {apos cpos : Pos} {T id : String} {r : V → List V → Hp → VK → Prop}
theorem pe_bm (pa : PlainAttrs T) (slot : Slot T name id) (hty : typeOf (.builtin id) = pure (.type "method_descriptor")) (hm : MtR X id r) (ho : PE X o to) (ha : PA X (e :: es) t)
    (hbase : attributeBase o name X.env (eval o X.env) = eval o X.env := by rfl)
    (hfew : ((backTo cpos (starEach (e :: es) X.env)).all (fun x => !x.1) && (backToKw cpos (keywordEach [] X.env)).all (fun x => x.1.isSome)
      && decide ((e :: es).length + ([] : List Keyword).length + (if ([] : List Keyword).isEmpty then 0 else 1) < 30)) = true := by rfl)
    (hline : (apos.endLine == cpos.line) = true := by rfl) (hs : starEach (e :: es) X.env = (false, eval e X.env) :: starEach es X.env := by rfl) (hplain : (backTo cpos (starEach es X.env)).any (·.1) = false := by rfl) :
    PE X (.Call (.Attribute o name apos) (e :: es) [] cpos) (tBM X.K T r to t) := by
  intro pins s σ H Q I h
  refine wpAny_Call_method_late hbase hfew hline rfl (thn (ho pins s σ H _ I h) fun v s1 ⟨x, H1, I1, r1, ty, q1⟩ => ?_)
  obtain ⟨h1, h2⟩ := tyV_is I1 r1 ty
  refine ⟨T, id, pa, slot, hty, h1, h2, ?_⟩
  have hA := ha cpos pins s1 σ H1 _ I1 q1
  rw [hs] at hA ⊢
  refine Calls.callWith_builtin (by show (false || (backTo cpos (starEach es X.env)).any (·.1)) = false; rw [hplain] <;> rfl) (Calls.evalArgs_plain ?_)
  exact thn hA fun us s2 ⟨vs, H2, I2, r2, q2⟩ => hm pins s2 σ H2 x vs v us Q I2 r1 r2 q2
end
end L2

namespace L2
open PySem PySem.Spec PyProof.Rows

def MtM (X : Cx) (id : String) (r : V → List V → Hp → VK → Prop) : Prop :=
  ∀ (pins : List (Addr × Obj)) (s : Shared) (σ : St) (H : Hp) (x : V) (xs : List V) (v : Value) (us : List Value) (Q : VK), Inv X pins σ H s → RelV x v → Vals xs us → r x xs H Q →
    wpAny (model X.prog X.w) X.A (call (.builtin id) (v :: us)) (EP X pins σ Q) X.xe s

theorem Vals.one : ∀ {x : V} {us : List Value}, Vals [x] us → ∃ u, us = [u] ∧ RelV x u
  | _, _, .cons r .nil => ⟨_, rfl, r⟩
theorem Vals.two : ∀ {x y : V} {us : List Value}, Vals [x, y] us → ∃ u v, us = [u, v] ∧ RelV x u ∧ RelV y v
  | _, _, _, .cons r (.cons q .nil) => ⟨_, _, rfl, r, q⟩
section
variable {X : Cx} {pins : List (Addr × Obj)} {σ : St} {H : Hp} {s : Shared} {l b : Addr} {xs ys zs : List V}

theorem Inv.lset {its its' : List Value} {n : Nat} {f : Array Value → Array Value} {t' : Nat} (I : Inv X pins σ H s) (hH : H l = some (.lst xs))
    (e : s.heap.get? l = some { cls := .type "list", data := .seq its.toArray n }) (hf : f its.toArray = its'.toArray) (hv : Vals ys its') (hz : ys.length ≤ sizeLine) :
    Inv X pins σ (upd H l (.lst ys)) { s with heap := s.heap.update l (Obj.mapSeq f), toks := t' } := by
  have q := PySem.IsL.update e f
  rw [hf] at q
  refine I.write (x := l) (e := l) (by rw [hH]; exact trivial) (.inl rfl) (fun b' u hb hu => (Heap.get?_update_other s.heap (Obj.mapSeq f) (Ne.symm hb)).trans hu) ⟨_, q⟩ ?_
  exact ⟨hz, its', _, hv, q⟩
theorem Inv.lnew {its : List Value} {t' : Nat} (I : Inv X pins σ H s) (hv : Vals ys its) (hz : ys.length ≤ sizeLine) :
    Inv X pins σ (upd H s.heap.objs.size (.lst ys)) { s with heap := s.heap.push { cls := .type "list", data := .seq its.toArray }, toks := t' } :=
  I.laid (fun _ _ q => Heap.get?_push_of_some _ q) (Nat.le_refl _) ⟨hz, its, 0, hv, Heap.get?_push_size _ rfl⟩
theorem Inv.fresh (I : Inv X pins σ H s) : H s.heap.objs.size = none := I.hok.fresh (Nat.le_refl _)
theorem Inv.lstM (I : Inv X pins σ H s) (hH : H l = some (.lst xs)) : xs.length ≤ sizeLine ∧ ∃ (its : List Value) (n : Nat), Vals xs its ∧ xs.length = its.length ∧ s.heap.get? l = some { cls := .type "list", data := .seq its.toArray n } := by
  obtain ⟨z, its, n, r, e⟩ := I.hok l _ hH
  exact ⟨z, its, n, r, r.length, e⟩

end

section
variable {X : Cx}

def rAppend : V → List V → Hp → VK → Prop := fun x vs H Q => ∃ l xs y, x = .ref l ∧ vs = [y] ∧ H l = some (.lst xs) ∧ xs.length < sizeLine ∧ Q .non (upd H l (.lst (xs ++ [y])))
theorem mt_append : MtM X "list.append" rAppend := by
  intro pins s σ H x vs v us Q I rx rv h
  obtain ⟨l, xs, y, rfl, rfl, hH, hz, q⟩ := h
  cases rx
  obtain ⟨u, rfl, ru⟩ := rv.one
  obtain ⟨z, its, n, r, hl, e⟩ := I.lstM hH
  refine call_meets F.slot_list_append ⟨_, e, rfl⟩ F.entry_list_append (F.args_list_append_2 _ _) (PySem.list_append l its.toArray n u (by rw [List.size_toArray]; omega)) ⟨e, ?_⟩
  refine ⟨.non, _, I.lset (its' := its ++ [u]) hH e (by simp) (r.append (.cons ru .nil)) ?_, rfl, q⟩
  rw [List.length_append, List.length_singleton]
  omega

def rCat : R2 := fun x y H Q => ∃ l b xs zs, x = .ref l ∧ y = .ref b ∧ H l = some (.lst xs) ∧ H b = some (.lst zs) ∧ xs.length + zs.length ≤ sizeLine ∧ ∀ p, H p = none → Q (.ref p) (upd H p (.lst (xs ++ zs)))
theorem op_cat : OpR X (binaryOp .Add) rCat := by
  intro pins s σ H x y v u Q I rx ry h
  obtain ⟨l, b, xs, zs, rfl, rfl, hH, hB, hz, q⟩ := h
  cases rx
  cases ry
  obtain ⟨z, its, n, r, hl, e⟩ := I.lstM hH
  obtain ⟨z2, its2, n2, r2, hl2, e2⟩ := I.lstM hB
  refine PySem.P.add_list e e2 ?_ (by rw [List.size_toArray, List.size_toArray]; omega)
  have ea : its.toArray ++ its2.toArray = (its ++ its2).toArray := by simp
  rw [ea]
  exact ⟨.ref _, _, I.lnew (t' := s.toks) (r.append r2) (by rw [List.length_append]; omega), rfl, q _ I.fresh⟩
end

end L2

namespace Att
open PySem PySem.W PySem.Calls PyProof.Rows

theorem ints_of_wellAll {P : Params} {h : Heap} : ∀ (ns : List Int) (vs : List Value), WellAll P h vs (ns.map WData.int) → IntsAre vs ns := by
  intro ns
  induction ns with
  | nil =>
    intro vs w
    rw [List.map_nil] at w
    cases w
    exact .nil
  | cons n ns ih =>
    intro vs w
    rw [List.map_cons] at w
    cases w with
    | cons a b =>
      cases a
      exact .cons _ _ (ih _ b)

theorem script_of {l : OpenLaw} {n : Nat} (hn : l.most = some n) {P : Params} {h : Heap} {args : List WData} {vals : List Value}
    (hpre : l.row.toRowW.claim.pre args = true) (hwl : WellAll P h vals args) :
    ∃ a vs ns, vals = [Value.ref a] ∧ args = [WData.list (ns.map WData.int)] ∧ h.get? a = some { cls := .type "list", data := .seq vs.toArray } ∧ IntsAre vs ns ∧ ns.length ≤ n := by
  have hsh : WShape.hasAll [] args [.list .int] = true := (pre_splitW hpre).1
  have hc : l.pre.holds [] { args := args } = true := (pre_splitW hpre).2
  obtain ⟨d, r, rfl, h1, h2⟩ := hasAllW_cons hsh
  obtain rfl := hasAllW_nil h2
  obtain ⟨xs, rfl, h3⟩ := hasW_list h1
  obtain ⟨ns, rfl⟩ := items_int h3
  have hlen : ns.length ≤ n := by
    unfold OpenLaw.pre at hc
    have h4 : (WTm.not (.lt (.lit (.int (n : Int))) (.len (.arg 0)))).holds [] { args := [.list (ns.map .int)] } = true := by
      have h4 := (holds_andW hc).1
      rw [hn] at h4
      exact h4
    have h5 := condW_of h4 (w_not (w_lt w_lit (w_len_list (w_arg rfl))))
    rw [List.length_map] at h5
    refine Nat.le_of_not_lt fun q => ?_
    have q' : (n : Int) < ((ns.length : Nat) : Int) := by omega
    first
      | (rw [decide_eq_true q'] at h5; exact absurd h5 (by decide))
      | (simp at h5; omega)
  cases hwl with
  | cons w1 w2 =>
    cases w2
    cases w1 with
    | list ho hall => exact ⟨_, _, ns, rfl, rfl, ho, ints_of_wellAll ns _ hall, hlen⟩

theorem post_true (l : OpenLaw) (args : List WData) : l.row.toRowW.claim.post args (.bool true) args = true :=
  postW_of (r := l.row.toRowW) (X := (true == true))
    (show WShape.has [] (.bool true) .bool = true by first | rfl | decide | simp [WShape.has, WShape.arms, WShape.armsAll])
    (show (WTm.eq .res (.lit (.bool true))).value [] { args := args, res := some (.bool true), after := args } = some (.bool (true == true)) from w_eq_bool (w_res rfl) w_lit) rfl

/-- the same from a codeAny of the CALL (for a layer whose function contracts speak of calls) -/
theorem attach_call {l : OpenLaw} {n : Nat} {q : Program} {loose : List Str} {XP : (Str → Option Value) → Heap → Prop} {YP : World → Heap → Prop} {d : DefRec}
    (hn : l.most = some n) (hdf : d.params.defaults = [])
    (call : ∀ (w : World) (s₀ s₁ : Shared) (mg mb : Str → Option Value) (fa : Addr) (o : Obj) (pm cd doc : Value) (a : Addr) (vs : List Value) (ns : List Int),
      Ground q loose [] XP w s₀ mg mb s₁.heap → YP w s₁.heap →
      s₁.heap.get? fa = some o → o.data = .func (docDef d.name d.params d.body d.scope pm cd doc) → s₁.heap.CodeRec cd d.name → mg d.name = some (.ref fa) →
      s₁.heap.get? a = some { cls := .type "list", data := .seq vs.toArray } → IntsAre vs ns → ns.length ≤ n → s₁.gens = #[] →
      codeAny (model l.prog w) callerA (.call (.ref fa) ⟨[.ref a], []⟩) (fun r s' => r = .ok (.ret (.bool true)) ∧ OldK s₁.heap s'.heap ∧ s'.os = s₁.os ∧ AllBare s'.gens) s₁) :
    WalkO q loose XP YP l.row.toRowW d [] (fun f vs => PySem.call f vs) := by
  intro w s₀ s₁ mg mb G Y fa o pm cd doc dV kV ho hd hcd hD hmg hg args vals as hpre hlay hrd hwl hlo
  obtain rfl : dV = .none := Dflts.none hD hdf
  obtain rfl : kV = .none := Dflts.noKw hD
  obtain ⟨a, vs, ns, rfl, rfl, hobj, hints, hlen⟩ := script_of hn hpre hwl
  refine enter_call (codeAny_mono (call w s₀ s₁ mg mb fa o pm cd doc a vs ns G Y ho (fd_plain hd) hcd hmg hobj hints hlen hg) fun r s' hq => ?_)
  obtain ⟨rfl, h2, h3, h4⟩ := hq
  exact ⟨.inl ⟨.bool true, .bool true, [], rfl, fun _ => rfl, .bool true, post_true l _, fun _ => ⟨List.Pairwise.nil, fun _ hm => (nomatch hm)⟩⟩, h2, h3, h4⟩

end Att

namespace L2
open PySem PySem.Spec PyProof.Rows

theorem vals_ints : ∀ {vs : List Value} {ns : List Int}, IntsAre vs ns → Vals (ns.map V.int) vs
  | _, _, .nil => .nil
  | _, _, .cons n t h => .cons ⟨t, rfl⟩ (vals_ints h)

/-- nothing is tracked but the script, known to the object (or it is an object of the module) -/
def Only (H : Hp) : Prop := ∀ b, H b = none ∨ ∃ o xs, H b = some (.frz o (.lst xs))

/-- THE HEAD: the law's promise, at the heap behind the top. F, the promise of the law's def, may use that base is part of the heap (so K.In base, base.Ns mainGlobals mg stand in Mod) -/
theorem law_call {P : Program} {w : World} {K : PySem.W.Frag} {mg mb : Str → Option Value} {CX : CXT} {k : Nat} {fa a : Addr} {fd : FuncData} {x : Str} {sp : Sp} {s₁ : Shared} {vs : List Value} {ns : List Int}
    (KX : K.In s₁.heap) (hns : s₁.heap.Ns mainGlobals mg) (hb : s₁.heap.Ns builtinsNs mb) (hbb : ∀ x : Str, x ≠ "__name__" → mb x = bootBuiltins x) (hlim : s₁.heap.NoLimit) (hg : s₁.gens = #[])
    (ha : s₁.heap.get? a = some { cls := .type "list", data := .seq vs.toArray }) (hi : IntsAre vs ns) (hl : ns.length ≤ sizeLine) (hr : Room k callerA)
    (F : ∀ base : Heap, K.In base → base.Ns mainGlobals mg → FnOk P w K mg base CX k fa fd [x] sp) (hbind : ∀ (s : Shared) (u : Value), BindsTo s fd ⟨[u], []⟩ [(x, u)])
    (hsp : ∀ H : Hp, Only H → SqL K H a (ns.map V.int) → sp [.ref a] H (fun v _ => v = .bl true) fun _ _ _ => False)
    (hCX : ∀ H e s', CX [] H s₁ (fun _ _ _ => False) e s' → False) :
    codeAny (model P w) callerA (.call (.ref fa) ⟨[.ref a], []⟩) (fun r s' => r = .ok (.ret (.bool true)) ∧ OldK s₁.heap s'.heap ∧ s'.os = s₁.os ∧ AllBare s'.gens) s₁ := by
  have rv := vals_ints hi
  have lenV := hi.length
  -- from an abstract heap in which nothing but the script may be tracked
  have core : ∀ H : Hp, Only H → SqL K H a (ns.map V.int) → HOk P w H s₁.heap → (∀ b, H b ≠ none → b = a) → (H a ≠ none → K.lookup a = none) →
      codeAny (model P w) callerA (.call (.ref fa) ⟨[.ref a], []⟩) (fun r s' => r = .ok (.ret (.bool true)) ∧ OldK s₁.heap s'.heap ∧ s'.os = s₁.os ∧ AllBare s'.gens) s₁ := by
    intro H hO hS hok hA hK
    have base_of : ∀ {b : Addr} {o : Obj}, s₁.heap.get? b = some o → H b = none → (hidT s₁.heap H).get? b = some o := fun e n => hidT_get e n
    have noA : ∀ {b : Addr} {o : Obj} {es : Array DictEntry} {ep : Nat}, s₁.heap.get? b = some o → o.data = .dict es ep → H b = none := fun {b o es ep} e d => by
      cases q : H b with
      | none => rfl
      | some u =>
        have e' : b = a := hA b (by rw [q]; simp)
        subst e'
        rw [ha] at e; cases e
        have d' : Data.seq vs.toArray _ = Data.dict es ep := d
        cases d'
    have nsK : ∀ {b : Addr} {m : Str → Option Value}, s₁.heap.Ns b m → (hidT s₁.heap H).Ns b m := fun {b m} ⟨o, es, ep, e, d, r⟩ => ⟨o, es, ep, base_of e (noA e d), d, r⟩
    have hKb : K.In (hidT s₁.heap H) := fun b o e => base_of (KX b o e) (by
      cases q : H b with
      | none => rfl
      | some u =>
        have e' : b = a := hA b (by rw [q]; simp)
        subst e'
        rw [hK (by rw [q]; simp)] at e; cases e)
    have hM : Mod K mg (hidT s₁.heap H) := ⟨hKb, nsK hns, ⟨mb, nsK hb, hbb⟩, let ⟨mc, h1, h2⟩ := hlim; ⟨mc, nsK h1, h2⟩⟩
    have e0 : Env0 P w K mg (hidT s₁.heap H) callerA [] s₁ H := ⟨rfl, hM, fun b o e => of_hidT e, Nat.le_of_eq (hidT_size _ _), trivial, fun b hb => absurd (show b ∈ ([] : List Addr) from hb) (by simp), hok, .of_eq hg⟩
    refine codeAny_mono ((F _ hKb (nsK hns)).run callerA [] s₁ H ⟨[.ref a], []⟩ [.ref a] [.ref a] _ _ hr e0 (hbind s₁ (.ref a)) (.cons rfl .nil) (hsp H hO hS)) fun r s' h => ?_
    cases r with
    | error e => exact (hCX H e s' h).elim
    | ok fl =>
      cases fl with
      | next => exact False.elim h
      | brk => exact False.elim h
      | cont => exact False.elim h
      | ret u =>
        obtain ⟨v, H', os, bare, un, hok', r', q⟩ := h
        have q' : v = .bl true := q
        subst q'
        obtain rfl : u = Value.bool true := r'
        refine ⟨rfl, OldK.of_keep fun b o e => ?_, os, bare⟩
        cases q : H b with
        | none => exact un.keep b o e q (by intro z; exact absurd (show b ∈ ([] : List Addr) from z) (by simp)) (by simp)
        | some u =>
          rcases hO b with z | ⟨ob, xs, z⟩
          · rw [q] at z; cases z
          · have z2 := un.frzs b ob _ z
            obtain ⟨e1, _⟩ := hok b _ z
            obtain ⟨e2, _⟩ := hok' b _ z2
            rw [e] at e1; cases e1
            exact e2
  cases hk : K.lookup a with
  | some o =>
    -- the script is one of the module's own objects
    have e := KX a o hk
    rw [ha] at e
    cases e
    refine core (fun _ => none) (fun _ => .inl rfl) (.inr ⟨_, vs.toArray, _, hk, rfl, rfl, rfl, by rw [List.size_toArray, lenV]; exact hl, by simpa using rv⟩) (fun b u z => by have z' : (none : Option HO) = some u := z; cases z') (fun b z => absurd rfl z) fun z => absurd rfl z
  | none =>
    refine core (fun b => if b = a then some (.frz { cls := .type "list", data := .seq vs.toArray } (.lst (ns.map V.int))) else none) (fun b => ?_) (.inl (.inr ⟨{ cls := .type "list", data := .seq vs.toArray }, if_pos rfl⟩)) (fun b u z => ?_) (fun b z => ?_) fun _ => hk
    · by_cases hb : b = a
      · exact .inr ⟨_, _, if_pos hb⟩
      · exact .inl (if_neg hb)
    · by_cases hb : b = a
      · have z' := (if_pos hb).symm.trans z
        cases z'
        subst hb
        exact ⟨ha, by rw [List.length_map]; exact hl, vs, _, rv, ha⟩
      · have z' := (if_neg hb).symm.trans z
        cases z'
    · by_cases hb : b = a
      · exact hb
      · exact absurd (if_neg hb) z
end L2

namespace L2
open PySem PySem.Spec PyProof.Rows

/-- the goal that k_head leaves (case hc), from the law's promise. F gives the function object fd (K's own) once, then the promise over every base -/
theorem walk_of {l : PySem.W.OpenLaw} {n k : Nat} {q : Program} {loose : List Str} {XP : (Str → Option Value) → Heap → Prop} {YP : World → Heap → Prop} {d : DefRec} {K : Params → PySem.W.Frag} {CX : World → CXT} {sp : World → Sp} {x : Str}
    (hn : l.most = some n) (hn2 : n ≤ sizeLine) (hdf : d.params.defaults = []) (hr : Room k callerA)
    (hY : ∀ (w : World) (h : Heap), YP w h → (K w.params).In h)
    (F : ∀ (w : World) (mg : Str → Option Value) (fa : Addr) (h : Heap), (K w.params).In h → h.Ns mainGlobals mg → mg d.name = some (.ref fa) →
      ∃ fd : FuncData, (∀ (s : Shared) (u : Value), BindsTo s fd ⟨[u], []⟩ [(x, u)]) ∧
        ∀ base : Heap, (K w.params).In base → base.Ns mainGlobals mg → FnOk l.prog w (K w.params) mg base (CX w) k fa fd [x] (sp w))
    (hsp : ∀ (w : World) (H : Hp) (a : Addr) (ns : List Int), ns.length ≤ n → Only H → SqL (K w.params) H a (ns.map V.int) → sp w [.ref a] H (fun v _ => v = .bl true) fun _ _ _ => False)
    (hCX : ∀ (w : World) (H : Hp) (s : Shared) (e : Value) (s' : Shared), CX w [] H s (fun _ _ _ => False) e s' → False) :
    PySem.W.WalkO q loose XP YP l.row.toRowW d [] (fun f vs => PySem.call f vs) := by
  refine Att.attach_call hn hdf fun w s₀ s₁ mg mb fa o pm cd doc a vs ns G Y ho hd hcd hmg hobj hints hlen hg => ?_
  have KX := hY w _ Y
  obtain ⟨fd, hb, hF⟩ := F w mg fa _ KX G.T.g hmg
  exact law_call KX G.T.g G.T.b G.T.builtins G.T.nolimit hg hobj hints (Nat.le_trans hlen hn2) hr hF hb (fun H hO hS => hsp w H a ns hlen hO hS) fun H e s' => hCX w H s₁ e s'
end L2

namespace L2
open PySem PySem.Spec PyProof.Rows

def defArgs (s : Stmt) : Arguments := match s with
  | .FunctionDef _ a _ _ _ _ _ _ _ _ => a
  | _ => { posonlyargs := [], args := [], vararg := none, kwonlyargs := [], kw_defaults := [], kwarg := none, defaults := [] }
def defBody (s : Stmt) : List Stmt := match s with
  | .FunctionDef _ _ b _ _ _ _ _ _ _ => b
  | _ => []
def defScope (s : Stmt) : Scope := match s with
  | .FunctionDef _ _ _ _ _ _ sc _ _ _ => sc
  | _ => { kind := .function, names := [], isGenerator := false, isCoroutine := false }

abbrev CX0 : CXT := fun _ _ _ _ _ _ => False
abbrev E0 : XK := fun _ _ _ => False
theorem pass0 {X : Cx} : Passes CX0 X E0 := fun _ _ _ _ _ _ _ h => h.elim

structure Fun (K : PySem.W.Frag) (x qual : Str) (st : Stmt) (f : Addr) (fd : FuncData) : Prop where
  ex : ∃ (oc : Value) (od : Option Addr) (kV doc pm : Value) (an : Option Addr) (cdv ct : Value) (osl : Array (Option Value)),
    fd = PySem.W.fnOf x qual (defArgs st) (defBody st) (defScope st) .none kV doc pm an cdv ct ∧ K.lookup f = some ⟨oc, od, .func fd, osl⟩ ∧ PySem.W.codeIn K cdv qual = true
  kp : PySem.W.keepIn K (.ref f) = true
section
variable {P : Program} {w : World} {K : PySem.W.Frag} {mg : Str → Option Value} {base : Heap}
/-- THE RULE for a def: its body as a term of rules, and the reading of that term -/
theorem Fun.ok {x qual : Str} {st : Stmt} {f : Addr} {fd : FuncData} {N ps : List Str} {k : Nat} {sp : Sp} (F : Fun K x qual st f fd) (S : FnScope N ps (defScope st)) (len : ∀ vs H Q E, sp vs H Q E → vs.length = ps.length)
    (hbody : ∀ (cdv : Value) (A : Around) (outer : List Env) (s : Shared) (H : Hp) (vs : List V) (Q : VK) (E : XK), Room k (A.deeper (envOfC qual (defScope st) s.heap.objs.size f cdv)) → sp vs H Q E →
      ∃ t, PSs (cxOf CX0 P w K mg base N qual (defScope st) f cdv A outer s H E).nox (defBody st) t ∧ t { nx := fun _ H' => Q .non H', rt := Q } (start N vs) H) : FnOk P w K mg base CX0 (k + 1) f fd ps sp := by
  obtain ⟨oc, od, kV, doc, pm, an, cdv, ct, osl, rfl, lk, hcd⟩ := F.ex
  refine fn_of lk hcd S len fun A outer s H vs Q E hr hsp => ?_
  obtain ⟨t, h, q⟩ := hbody cdv A outer s H vs Q E hr hsp
  exact ⟨t, h.nox, q⟩
/-- how its arguments bind (no defaults): h is «fun _ _ _ _ _ _ us hl => match us, hl with | [_, _], _ => rfl», one _ a parameter -/
theorem Fun.binds {x qual : Str} {st : Stmt} {f : Addr} {fd : FuncData} {ps : List Str} (F : Fun K x qual st f fd)
    (h : ∀ (kV doc pm : Value) (an : Option Addr) (cdv ct : Value) (us : List Value), us.length = ps.length → bindArgs (PySem.W.fnOf x qual (defArgs st) (defBody st) (defScope st) .none kV doc pm an cdv ct) ⟨us, []⟩ = pure (ps.zip us)) : Binds K fd ps [] := by
  obtain ⟨oc, od, kV, doc, pm, an, cdv, ct, osl, rfl, lk, hcd⟩ := F.ex
  exact .all (h kV doc pm an cdv ct)
theorem fun_mk {x qual : Str} {st : Stmt} {f : Addr} {oc : Value} {od an : Option Addr} {osl : Array (Option Value)} {kV doc pm cdv ct : Value} (l : K.lookup f = some ⟨oc, od, .func (PySem.W.fnOf x qual (defArgs st) (defBody st) (defScope st) .none kV doc pm an cdv ct), osl⟩)
    (c : PySem.W.codeIn K cdv qual = true) (k : PySem.W.keepIn K (.ref f) = true) : Fun K x qual st f (PySem.W.fnOf x qual (defArgs st) (defBody st) (defScope st) .none kV doc pm an cdv ct) := ⟨⟨oc, od, kV, doc, pm, an, cdv, ct, osl, rfl, l, c⟩, k⟩
end
section
variable {X : Cx}
theorem pv (i : Nat) {x : Str} {pos : Pos} (hN : X.N[i]? = some x := by rfl) (hv : Vis X.env.scope x := by first | exact Or.inl rfl | exact Or.inr (Or.inl rfl) | exact Or.inr (Or.inr rfl)) (hd : (x == ("__debug__" : Str)) = false := by decide)
    (hcd : (x == ("__classdict__" : Str)) = false := by decide) : PE X (.Name x pos) (tVar i) := pe_var hN hv hd hcd
end

/-- all that was tracked is as it was -/
def Same (H H' : Hp) : Prop := ∀ b o, H b = some o → H' b = some o
theorem Same.refl (H : Hp) : Same H H := fun _ _ h => h
theorem Same.trans {H H1 H2 : Hp} (a : Same H H1) (b : Same H1 H2) : Same H H2 := fun c o h => b c o (a c o h)
theorem Same.free {H H' : Hp} (e : Same H H') {l : Addr} (h : H' l = Option.none) : H l = Option.none := by
  cases q : H l with
  | none => rfl
  | some o =>
    rw [e l o q] at h
    cases h
theorem Same.seq {K : PySem.W.Frag} {H H' : Hp} {a : Addr} {xs : List V} (e : Same H H') (h : SqL K H a xs) : SqL K H' a xs := by
  rcases h with (h | ⟨o, h⟩) | h
  · exact .inl (.inl (e _ _ h))
  · exact .inl (.inr ⟨o, e _ _ h⟩)
  · exact .inr h

end L2
namespace L2
open PySem PySem.Spec PyProof.Rows

def Has (P : Program) (w : World) (K : PySem.W.Frag) (mg : Str → Option Value) (base : Heap) (k : Nat) (x : Str) (ps : List Str) (sp : Sp) : Prop :=
  ∃ (f : Addr) (fd : FuncData), FnOk P w K mg base CX0 k f fd ps sp ∧ mg x = some (.ref f) ∧ PySem.W.keepIn K (.ref f) = true ∧ Binds K fd ps []
def tCallH (sp : Sp) (t : TA) : TE := fun σ H Q => t σ H fun vs H1 => sp vs H1 Q E0
section
variable {X : Cx} {k : Nat} {ps : List Str} {sp : Sp} {x : Str} {p pos : Pos} {e a c : Expr} {es : List Expr} {t : TA}
theorem pe_callH (C : Has X.prog X.w X.K X.mg X.base k x ps sp) (hr : Room k X.A) (hg : Gl X x) (ha : PA X (e :: es) t) (hdb : (x == ("__debug__" : Str)) = false := by decide) (he : starEach (e :: es) X.env = (false, eval e X.env) :: starEach es X.env := by rfl)
    (hpl : (backTo pos (starEach es X.env)).any (·.1) = false := by rfl) : PE X (.Call (.Name x p) (e :: es) [] pos) (tCallH sp t) := by
  obtain ⟨f, fd, F, hm, hk, hb⟩ := C
  intro pins s σ H Q I h
  refine wpAny_Call_Name_kw (ld_glob I hg hm ?_ hdb)
  refine PySem.W.callWith_K (h₀ := X.base) I.ok.mod.kin hk (thn (ha pos pins s σ H _ I h) fun us s1 ⟨vs, H1, I1, r, q⟩ => ⟨I1.kIn, ?_⟩) he hpl
  exact run_fn (dvs := []) F hr hb .nil pass0 I1 r (by rw [List.append_nil]; exact q)

end
theorem kit_same (K : PySem.W.Frag) (n : String) : PySem.W.kitOne K (.type n) (.type n) = some true := by
  unfold PySem.W.kitOne
  rw [if_pos (beq_self_eq_true _)]
theorem ifp {b : Bool} {A B : Prop} (h : b = true) (k : A) : if b = true then A else B := by rw [if_pos h]; exact k
theorem ifn {b : Bool} {A B : Prop} (h : b = false) (k : B) : if b = true then A else B := by rw [if_neg (by rw [h]; exact Bool.false_ne_true)]; exact k
theorem if2 {b : Bool} {A B : Prop} (h1 : b = true → A) (h2 : b = false → B) : if b = true then A else B := by
  cases b with
  | true => exact ifp rfl (h1 rfl)
  | false => exact ifn rfl (h2 rfl)
theorem eqT {x y : Int} (h : x = y) : decide (V.int x = V.int y) = true := by rw [h]; exact decide_eq_true rfl
theorem eqF {x y : Int} (h : x ≠ y) : decide (V.int x = V.int y) = false := decide_eq_false fun z => h (V.int.inj z)
theorem of_eqF {x y : Int} (h : decide (V.int x = V.int y) = false) : x ≠ y := fun z => of_decide_eq_false h (by rw [z])
theorem neF {x y : Int} (h : x = y) : (!decide (V.int x = V.int y)) = false := by rw [eqT h]; rfl
theorem neT {x y : Int} (h : x ≠ y) : (!decide (V.int x = V.int y)) = true := by rw [eqF h]; rfl
/-- an item of a list of ints, at a place in it -/
theorem atI_int {ns : List Int} {i : Int} (h0 : 0 ≤ i) (h1 : i < ns.length) : ∃ c, ns[i.toNat]? = some c ∧ atI (ns.map V.int) i = some (.int c) := by
  have hl : i.toNat < ns.length := by omega
  refine ⟨ns[i.toNat], List.getElem?_eq_getElem hl, ?_⟩
  have q : atI (ns.map V.int) ((i.toNat : Nat) : Int) = some (.int ns[i.toNat]) := atI_nat (by rw [List.getElem?_map, List.getElem?_eq_getElem hl]; rfl)
  rw [Int.toNat_of_nonneg h0] at q
  exact q
theorem mask31 (x : Int) : Builtin.bitAnd x 2147483647 = x % 2147483648 := PySem.W.kbt_mask x 31
end L2
namespace L2
open PySem PySem.Spec PyProof.Rows

def plainV : V → Bool
  | .int _ => true
  | .str _ => true
  | _ => false
theorem eqV_plain {x y : V} (hx : plainV x = true) (hy : plainV y = true) : eqV x y = decide (x = y) := by
  cases x <;> (try (exact Bool.noConfusion (show false = true from hx))) <;> cases y <;> (try (exact Bool.noConfusion (show false = true from hy))) <;> (rw [Bool.eq_iff_iff]; simp [eqV])
end L2
namespace L2
open PySem PySem.Spec PyProof.Rows

def Cx.blk (X : Cx) (N : List Str) (sc : Scope) (cl : List (Str × Addr)) (C : Addr) (s : Shared) (H : Hp) (ex : List Addr) : Cx where
  prog := X.prog
  w := X.w
  K := X.K
  mg := X.mg
  base := X.base
  A := X.A
  N := N
  s₀ := s
  H₀ := H
  env := compEnvC sc cl C X.env
  outer := X.stack
  stack := X.stack
  ex := ex
  fn := fun _ => false
  calm := X.calm
  pn := []
  xe := fun _ _ => False

/-- x: the block's own name; ys: the outer names that it reads, standing at the places js of the outer frame -/
structure BlkScope (osc : Scope) (N : List Str) (x : Str) (ys : List Str) (js : List Nat) (sc : Scope) : Prop where
  kind : sc.kind = .function
  nocell : ∀ y ∈ sc.names, y.2 ≠ .cell
  loc : ∀ y ∈ sc.names, y.2 = .local → sc.names.lookup y.1 = some .local
  var : sc.names.lookup x = some .local
  out : ∀ y ∈ sc.names, y.2 = .free → osc.names.lookup y.1 = some .cell ∨ osc.names.lookup y.1 = some .free
  free : ∀ y ∈ ys, sc.names.lookup y = some .free
  places : js.map (fun j => N[j]?) = ys.map some
  nd : (x :: ys).Nodup

theorem relabel_free {env : Env} : ∀ {names : List (Str × NameKind)} {x : Str}, names.lookup x = some .free →
    (names.map fun (n, k) => if (k == NameKind.free && env.scope.kind == .function && env.kindOf n == some .cell) then (n, NameKind.cell) else (n, k)).lookup x = some .cell ∨
    (names.map fun (n, k) => if (k == NameKind.free && env.scope.kind == .function && env.kindOf n == some .cell) then (n, NameKind.cell) else (n, k)).lookup x = some .free
  | [], _, h => by simp at h
  | (n, k) :: r, x, h => by
    have ih := @relabel_free env r x
    rw [List.map_cons]
    show List.lookup x ((if (k == NameKind.free && env.scope.kind == .function && env.kindOf n == some .cell) = true then (n, NameKind.cell) else (n, k)) :: _) = _ ∨ List.lookup x ((if (k == NameKind.free && env.scope.kind == .function && env.kindOf n == some .cell) = true then (n, NameKind.cell) else (n, k)) :: _) = _
    cases hx : x == n with
    | true =>
      simp only [List.lookup_cons, hx] at h
      cases h
      by_cases hc : (NameKind.free == NameKind.free && env.scope.kind == .function && env.kindOf n == some .cell) = true
      · rw [if_pos hc]; exact .inl (by simp [List.lookup_cons, hx])
      · rw [if_neg hc]; exact .inr (by simp [List.lookup_cons, hx])
    | false =>
      simp only [List.lookup_cons, hx] at h
      by_cases hc : (k == NameKind.free && env.scope.kind == .function && env.kindOf n == some .cell) = true
      · rw [if_pos hc]; simp only [List.lookup_cons, hx]; exact ih h
      · rw [if_neg hc]; simp only [List.lookup_cons, hx]; exact ih h
/-- a name that the block reads through a cell is one of its free names -/
theorem relabel_back {env : Env} : ∀ {names : List (Str × NameKind)} {x : Str}, (∀ y ∈ names, y.2 ≠ .cell) →
    ((names.map fun (n, k) => if (k == NameKind.free && env.scope.kind == .function && env.kindOf n == some .cell) then (n, NameKind.cell) else (n, k)).lookup x = some .cell ∨
    (names.map fun (n, k) => if (k == NameKind.free && env.scope.kind == .function && env.kindOf n == some .cell) then (n, NameKind.cell) else (n, k)).lookup x = some .free) → (x, NameKind.free) ∈ names
  | [], _, _, h => by simp at h
  | (n, k) :: r, x, hn, h => by
    have ih := @relabel_back env r x fun y hy => hn y (List.mem_cons_of_mem _ hy)
    rw [List.map_cons] at h
    have h' : List.lookup x ((if (k == NameKind.free && env.scope.kind == .function && env.kindOf n == some .cell) = true then (n, NameKind.cell) else (n, k)) :: (r.map fun (n, k) => if (k == NameKind.free && env.scope.kind == .function && env.kindOf n == some .cell) then (n, NameKind.cell) else (n, k))) = some .cell ∨ List.lookup x ((if (k == NameKind.free && env.scope.kind == .function && env.kindOf n == some .cell) = true then (n, NameKind.cell) else (n, k)) :: (r.map fun (n, k) => if (k == NameKind.free && env.scope.kind == .function && env.kindOf n == some .cell) then (n, NameKind.cell) else (n, k))) = some .free := h
    cases hx : x == n with
    | true =>
      have e : x = n := eq_of_beq hx
      by_cases hc : (k == NameKind.free && env.scope.kind == .function && env.kindOf n == some .cell) = true
      · have hk : k = .free := by
          cases k <;> first | rfl | (simp at hc)
        rw [e, hk]; exact List.mem_cons_self
      · rw [if_neg hc] at h'
        simp only [List.lookup_cons, hx] at h'
        rcases h' with h' | h'
        · have q : k = .cell := Option.some.inj h'
          exact absurd q (hn (n, k) List.mem_cons_self)
        · have q : k = .free := Option.some.inj h'
          rw [e, q]; exact List.mem_cons_self
    | false =>
      refine List.mem_cons_of_mem _ (ih ?_)
      by_cases hc : (k == NameKind.free && env.scope.kind == .function && env.kindOf n == some .cell) = true
      · rw [if_pos hc] at h'; simp only [List.lookup_cons, hx] at h'; exact h'
      · rw [if_neg hc] at h'; simp only [List.lookup_cons, hx] at h'; exact h'

/-- the cells that a block is handed -/
theorem closure_ok {sc : Scope} {env : Env} (h : ∀ y ∈ sc.names, y.2 = .free → ∃ c, env.cells.lookup y.1 = some c) :
    ∃ cl, closureFor sc env = pure cl ∧ (∀ y c, cl.lookup y = some c → env.cells.lookup y = some c) ∧ ∀ y ∈ sc.names, y.2 = .free → ∃ c, cl.lookup y.1 = some c := by
  have go : ∀ (l : List (Str × NameKind)) (acc : List (Str × Addr)), (∀ y ∈ l, y.2 = .free → ∃ c, env.cells.lookup y.1 = some c) → (∀ y c, acc.lookup y = some c → env.cells.lookup y = some c) →
      ∃ cl, (forIn l acc fun (x : Str × NameKind) (r : List (Str × Addr)) => if x.2 == .free then (do let c ← cellOf env x.1; pure (ForInStep.yield ((x.1, c) :: r)) : Sem (ForInStep (List (Str × Addr)))) else pure (ForInStep.yield r)) = pure cl ∧
        (∀ y c, cl.lookup y = some c → env.cells.lookup y = some c) ∧ (∀ y ∈ l, y.2 = .free → ∃ c, cl.lookup y.1 = some c) ∧ ∀ y, (∃ c, acc.lookup y = some c) → ∃ c, cl.lookup y = some c := by
    intro l
    induction l with
    | nil => intro acc _ ha; exact ⟨acc, rfl, ha, (fun _ z => nomatch z), fun _ z => z⟩
    | cons p l ih =>
      intro acc hl ha
      obtain ⟨n, k⟩ := p
      by_cases hk : k = .free
      · subst hk
        obtain ⟨c, hc⟩ := hl (n, .free) List.mem_cons_self rfl
        have ha' : ∀ y d, List.lookup y ((n, c) :: acc) = some d → env.cells.lookup y = some d := fun y d e => by
          rw [List.lookup_cons] at e
          cases q : y == n with
          | true => rw [q] at e; cases e; rw [eq_of_beq q]; exact hc
          | false => rw [q] at e; exact ha y d e
        obtain ⟨cl, e, h1, h2, h3⟩ := ih ((n, c) :: acc) (fun y hy => hl y (List.mem_cons_of_mem _ hy)) ha'
        have hco : cellOf env n = pure c := by unfold cellOf; rw [hc]
        refine ⟨cl, ?_, h1, fun y hy hf => ?_, fun y hy => h3 y ?_⟩
        · rw [List.forIn_cons]
          simp only [beq_self_eq_true, if_true]
          rw [hco]
          exact e
        · rcases List.mem_cons.mp hy with rfl | hy
          · exact h3 n ⟨c, by simp [List.lookup_cons]⟩
          · exact h2 y hy hf
        · obtain ⟨d, hd⟩ := hy
          rw [List.lookup_cons]
          cases y == n with
          | true => exact ⟨c, rfl⟩
          | false => exact ⟨d, hd⟩
      · obtain ⟨cl, e, h1, h2, h3⟩ := ih acc (fun y hy => hl y (List.mem_cons_of_mem _ hy)) ha
        refine ⟨cl, ?_, h1, fun y hy hf => ?_, h3⟩
        · rw [List.forIn_cons]
          have hb : (k == NameKind.free) = false := by simpa using hk
          simp only [hb, Bool.false_eq_true, if_false]
          exact e
        · rcases List.mem_cons.mp hy with rfl | hy
          · exact absurd hf hk
          · exact h2 y hy hf
  obtain ⟨cl, e, h1, h2, _⟩ := go sc.names [] h fun _ _ z => by simp at z
  refine ⟨cl, ?_, h1, h2⟩
  unfold closureFor
  show (forIn sc.names [] _ >>= fun cs => pure cs) = pure cl
  exact (congrArg (· >>= fun cs => pure cs) e).trans rfl
end L2
namespace L2
open PySem PySem.Spec PyProof.Rows

section
variable {X : Cx} {pins : List (Addr × Obj)} {σ : St} {H : Hp} {s : Shared} {x : Str} {ys : List Str} {js : List Nat} {sc : Scope} {cl : List (Str × Addr)} {fp : List Addr}
/-- the values that a block sees: its own name's (none yet), then the outer ones at js -/
def blkSt (js : List Nat) (σ : St) (v : Option V) : St := v :: js.map fun j => σ.getD j none

theorem blk_ok (I : Inv X pins σ H s) (S : BlkScope X.env.scope X.N x ys js sc) (h1 : ∀ y c, cl.lookup y = some c → X.env.cells.lookup y = some c) (h2 : ∀ y ∈ sc.names, y.2 = .free → ∃ c, cl.lookup y.1 = some c)
    (hf : ∀ b ∈ fp, FpOk X pins H b) (hl : ∀ b ∈ fp, b < s.heap.objs.size) : (X.blk (x :: ys) sc cl s.heap.objs.size s H fp).Ok where
  mod := I.ok.mod
  kind := S.kind
  glob := I.ok.glob
  blt := I.ok.blt
  above := Nat.le_refl _
  inj := fun y z c e1 e2 => I.ok.inj y z c (h1 y c e1) (h1 z c e2)
  has := fun y hy => h2 (y, .free) (relabel_back S.nocell hy) rfl
  cab := fun y c e => nomatch e
  hd := I.ok.hd
  frames := I.ok.frames
  stk := .inl rfl
  exf := fun b hb => ⟨Nat.ne_of_lt (hl b hb), fun y c e => (hf b hb).2.2.2.2.1 y c (h1 y c e)⟩
  bs := I.bs
  bsz := Nat.le_trans I.ok.bsz I.sz
  noex := fun b o e hb => by
    rcases (hf b hb).2.2.2.1 with z | z
    · exact I.ok.noex b o e z
    · exact absurd (Nat.lt_of_lt_of_le (Heap.lt_size e) (Nat.le_trans I.ok.bsz z)) (Nat.lt_irrefl _)
  exfs := fun b hb z => by
    rcases List.mem_cons.mp (I.stkSub b z) with q | q
    · exact (hf b hb).2.1 q
    · exact (hf b hb).2.2.1 q
  funs := I.stack
  frf := I.stkFree

theorem blk_start {h' : Heap} {t' : Nat} {m : Str → Option Value} (I : Inv X pins σ H s) (S : BlkScope X.env.scope X.N x ys js sc) (h1 : ∀ y c, cl.lookup y = some c → X.env.cells.lookup y = some c) (h2 : ∀ y ∈ sc.names, y.2 = .free → ∃ c, cl.lookup y.1 = some c)
    (hf : ∀ b ∈ fp, FpOk X pins H b) (hl : ∀ b ∈ fp, b < s.heap.objs.size) (hn : h'.Ns s.heap.objs.size m) (hk : ∀ b o, s.heap.get? b = some o → h'.get? b = some o) :
    Inv (X.blk (x :: ys) sc cl s.heap.objs.size s H fp) [] (blkSt js σ none) H { s with heap := h', toks := t' } where
  ok := blk_ok I S h1 h2 hf hl
  os := rfl
  bare := I.bare
  base := Un.kept hk
  loc := ⟨m, hn, fun i y v e1 e2 e3 => by
    cases i with
    | zero => cases (show some (none : Option V) = some (some v) from e2)
    | succ i =>
      have e1 : ys[i]? = some y := e1
      have e2 : (js.map fun j => σ.getD j none)[i]? = some (some v) := e2
      rw [List.getElem?_map] at e2
      cases ej : js[i]? with
      | none => rw [ej] at e2; cases e2
      | some j =>
        rw [ej] at e2
        have e2 : σ.getD j none = some v := Option.some.inj e2
        have e4 : σ[j]? = some (some v) := by
          cases q : σ[j]? with
          | none => rw [List.getD_eq_getElem?_getD, q] at e2; cases e2
          | some u => rw [List.getD_eq_getElem?_getD, q] at e2; rw [← e2]; rfl
        have e5 : X.N[j]? = some y := by
          have q := congrArg (fun l => l[i]?) S.places
          simp only [List.getElem?_map, ej, e1, Option.map_some] at q
          exact Option.some.inj q
        have e6 : (y, NameKind.free) ∈ sc.names := PySem.mem_of_lookup (S.free y (List.mem_of_getElem? e1))
        have e7 := S.out _ e6 rfl
        obtain ⟨m0, _, hl0⟩ := I.loc
        obtain ⟨u, r, lk⟩ := hl0 j y v e5 e4 (e7.elim (fun z => .inr (.inl z)) fun z => .inr (.inr z))
        refine ⟨u, r, .inr ⟨relabel_free (S.free y (List.mem_of_getElem? e1)), ?_⟩⟩
        rcases lk with ⟨k, _⟩ | ⟨_, c, ec, z⟩
        · have k : X.env.scope.names.lookup y = some .local := k
          rcases e7 with z | z <;> (rw [k] at z; cases z)
        · obtain ⟨c', ec'⟩ := h2 _ e6 rfl
          have q := h1 _ _ ec'
          have q : X.env.cells.lookup y = some c' := q
          rw [ec] at q; cases q
          obtain ⟨o, ho, hd⟩ := z
          exact ⟨c, ec', o, hk _ _ ho, hd⟩⟩
  cell := fun y c e => by
    obtain ⟨v, o, ho, hd⟩ := I.cell y c (h1 y c e)
    exact ⟨v, o, hk _ _ ho, hd⟩
  free := I.hok.fresh (Nat.le_refl _)
  freeC := fun y c e => I.freeC y c (h1 y c e)
  pin := fun p hp => absurd (show p ∈ ([] : List (Addr × Obj)) from hp) (by simp)
  hok := I.hok.kept hk
  len := by
    show (none :: js.map fun j => σ.getD j none).length = (x :: ys).length
    have q := congrArg List.length S.places
    simp only [List.length_map] at q
    simp [q]

/-- behind the block -/
theorem blk_end {H5 : Hp} {s5 : Shared} {σ5 : St} {pl : List (Addr × Obj)} (I : Inv X pins σ H s) (hf : ∀ b ∈ fp, FpOk X pins H b) (J : Inv (X.blk (x :: ys) sc cl s.heap.objs.size s H fp) pl σ5 H5 s5) :
    Inv X pins σ H5 s5 ∧ FpOk X pins H5 s.heap.objs.size ∧ ∃ oC m, s5.heap.get? s.heap.objs.size = some oC ∧ (∀ h : Heap, h.get? s.heap.objs.size = some oC → h.Ns s.heap.objs.size m) ∧ Inv X (pins ++ [(s.heap.objs.size, oC)]) σ H5 s5 := by
  have I5 : Inv X pins σ H5 s5 := I.call' (ch := fp) J.os J.base J.hok J.bare fun b hb => ⟨(hf b hb).2.2.2.1, (hf b hb).2.1, (hf b hb).2.2.2.2.1, (hf b hb).2.2.2.2.2⟩
  have F5 : FpOk X pins H5 s.heap.objs.size := I.fpOk (Nat.le_refl _) J.free
  obtain ⟨m, ⟨o, es, ep, ho, hd, r⟩, _⟩ := J.loc
  refine ⟨I5, F5, o, m, ho, fun h e => ⟨o, es, ep, e, hd, r⟩, I5.pins_of fun p hp => ?_⟩
  rcases List.mem_append.mp hp with z | z
  · exact I5.pin p (List.mem_append_right _ z)
  · have z : p = (s.heap.objs.size, o) := by simpa using z
    subst z
    exact ⟨ho, J.free, F5.2.1, F5.2.2.1, fun v q => by rw [hd] at q; cases q⟩
end

/-- the tests of a comprehension -/
def PTs (X : Cx) (ifs : List Expr) (t : TT) : Prop :=
  ∀ (pins : List (Addr × Obj)) (s : Shared) (σ : St) (H : Hp) (Q : Bool → Hp → Prop), Inv X pins σ H s → t σ H Q →
    wpAny (model X.prog X.w) X.A (forIn ifs true fun c r => if r = true then do let ok ← isTrue c X.env (eval c X.env); pure (ForInStep.yield ok) else pure (ForInStep.yield r)) (TP X pins σ Q) X.xe s
def tAll : TT := fun _ H Q => Q true H
theorem pts_nil {X : Cx} : PTs X [] tAll := fun _ _ _ H _ I h => wpAny_tests_nil ⟨H, I, h⟩
/-- what a comprehension's walk wants: W the invariant by turn, measure, what is gathered so far (the list at D) -/
def CompBy (js : List Nat) (tc : TT) (te : TE) (σ : St) (J : It) (H : Hp) (Fin : Addr → Hp → Prop) : Prop :=
  ∀ D, H D = none → ∃ W : Nat → Nat → List V → Hp → Prop, (∃ m, W 0 m [] (upd H D (.lst []))) ∧ ∀ i m ys H', W i m ys H' → H' D = some (.lst ys) ∧
    ((J.stop i H' ∧ Fin D H') ∨ (J.go i H' ∧ ∃ N : List V → Hp → Prop, (∀ zs H'', N zs H'' → ∃ m', m' < m ∧ W (i + 1) m' zs H'') ∧ ∀ v H2, J.yld i H' v H2 → tc (blkSt js σ (some v)) H2 fun b H3 =>
      if b = true then te (blkSt js σ (some v)) H3 fun y H4 => H4 D = some (.lst ys) ∧ ys.length < sizeLine ∧ N (ys ++ [y]) (upd H4 D (.lst (ys ++ [y]))) else N ys H3))

section
variable {X : Cx} {pins : List (Addr × Obj)} {σ : St} {H : Hp} {s : Shared} {x : Str} {ys : List Str} {js : List Nat} {sc : Scope} {cl : List (Str × Addr)} {fp : List Addr}
theorem comp_block {elt iter : Expr} {ifs : List Expr} {px pos : Pos} {tc : TT} {te : TE} {J : It} {it : Addr} {tn : Nat → Heap → Prop} {Fin : Addr → Hp → Prop} {E : Value → Shared → Prop} {RR : Value → Addr → Result → Shared → Prop}
    (hc : X.calm = true) (I : Inv X pins σ H s) (S : BlkScope X.env.scope X.N x ys js sc) (h1 : ∀ y c, cl.lookup y = some c → X.env.cells.lookup y = some c) (h2 : ∀ y ∈ sc.names, y.2 = .free → ∃ c, cl.lookup y.1 = some c)
    (T : Turn X.prog X.w X.K (.Name x px) J fp it tn) (st : tn 0 s.heap) (hf : ∀ b ∈ fp, FpOk X pins H b)
    (ht : ∀ cl C s H ex, PTs (X.blk (x :: ys) sc cl C s H ex) ifs tc) (he : ∀ cl C s H ex, PE (X.blk (x :: ys) sc cl C s H ex) elt te)
    (hw : CompBy js tc te σ J H Fin)
    (hRR : ∀ D C oC m s5 H5, Inv X pins σ H5 s5 → FpOk X pins H5 C → s5.heap.get? C = some oC → (∀ h : Heap, h.get? C = some oC → h.Ns C m) → Inv X (pins ++ [(C, oC)]) σ H5 s5 → Fin D H5 → RR (.ref D) C (.ok .next) s5) :
    wpAny (model X.prog X.w) X.A (newList []) (fun acc s₃ => wpAny (model X.prog X.w) X.A (newFunctionEnv sc X.env.globals cl [] X.env.qual none .none (some X.env)) (fun cenv s₄ =>
      codeAny (model X.prog X.w) X.A (.compStart (.ListComp elt [⟨.Name x px, iter, ifs, 0⟩] sc pos) 0 (.ref it) acc { cenv with scope := relabel sc X.env }) (RR acc cenv.locals) s₄) E s₃) E s := by
  refine wpAny_newObj_type (wpAny_newFunctionEnv S.nocell (by intro y hy; simp at hy) (fun h₁ hns₁ hsb₁ => ?_) S.kind)
  have hD : H s.heap.objs.size = none := I.hok.fresh (Nat.le_refl _)
  have I1 : Inv X pins σ (upd H s.heap.objs.size (.lst [])) { s with heap := s.heap.push { cls := .type "list", dict := none, data := .seq ([] : List Value).toArray }, toks := s.toks } :=
    I.laid (t' := s.toks) (fun b u e => Heap.get?_push_of_some _ e) (Nat.le_refl _) ⟨Nat.zero_le _, [], 0, .nil, Heap.get?_push_size _ rfl⟩
  have hfl : ∀ b ∈ fp, b < s.heap.objs.size := fun b hb => by
    obtain ⟨o, e, _⟩ := T.obj 0 _ st b hb
    exact Heap.lt_size e
  generalize hs1 : ({ s with heap := s.heap.push { cls := .type "list", dict := none, data := .seq ([] : List Value).toArray }, toks := s.toks } : Shared) = s1 at I1
  have sz1 : s1.heap.objs.size = s.heap.objs.size + 1 := by rw [← hs1]; exact Heap.size_push _ _
  have old : ∀ b o, s.heap.get? b = some o → s1.heap.get? b = some o := fun b o e => by rw [← hs1]; exact Heap.get?_push_of_some _ e
  rw [hs1] at hns₁ hsb₁
  try rw [hs1]
  have hf1 : ∀ b ∈ fp, FpOk X pins (upd H s.heap.objs.size (.lst [])) b := fun b hb => ⟨by rw [upd_ne (Nat.ne_of_lt (hfl b hb))]; exact (hf b hb).1, (hf b hb).2⟩
  have hfl1 : ∀ b ∈ fp, b < s1.heap.objs.size := fun b hb => by rw [sz1]; exact Nat.lt_succ_of_lt (hfl b hb)
  have old1 : ∀ b o, s1.heap.get? b = some o → h₁.get? b = some o := fun b o e => hsb₁.extBut b o (Nat.ne_of_lt (Heap.lt_size e)) (Heap.get?_push_of_some _ e)
  have I2 := blk_start (t' := s1.toks + ([] : List (Str × Value)).length) I1 S h1 h2 hf1 hfl1 hns₁ old1
  have st2 : tn 0 h₁ := T.keep 0 _ _ st fun b _ o e => old1 b o (old b o e)
  obtain ⟨W, ⟨m0, w0⟩, turn⟩ := hw s.heap.objs.size hD
  have fr0 : ∀ b ∈ fp, (upd H s.heap.objs.size (.lst [])) b = none := fun b hb => (hf1 b hb).1
  -- what stays true of the iterator's objects in the block
  have stat : ∀ {H' : Hp} {pl : List (Addr × Obj)}, (∀ b ∈ fp, H' b = none) → (∀ b ∈ fp, ∀ p ∈ pl, p.1 ≠ b) → ∀ b ∈ fp, FpOk (X.blk (x :: ys) sc cl s1.heap.objs.size s1 (upd H s.heap.objs.size (.lst [])) fp) pl H' b := fun hn hp b hb =>
    ⟨hn b hb, (I2.ok.exf b hb).1, I2.ok.exfs b hb, .inl hb, (I2.ok.exf b hb).2, fun p hpp => hp b hb p (by simpa [Cx.blk] using hpp)⟩
  have loop : codeAny (model X.prog X.w) X.A (.compLoop (.ListComp elt [⟨.Name x px, iter, ifs, 0⟩] sc pos) 0 (.ref it) (.ref s.heap.objs.size) (compEnvC sc cl s1.heap.objs.size X.env)) (RR (.ref s.heap.objs.size) s1.heap.objs.size)
      { s1 with heap := h₁, toks := s1.toks + ([] : List (Str × Value)).length } := by
    refine codeAny_compLoop_tests (fun n s' => ∃ i zs H', Inv (X.blk (x :: ys) sc cl s1.heap.objs.size s1 (upd H s.heap.objs.size (.lst [])) fp) [] (blkSt js σ none) H' s' ∧ tn i s'.heap ∧ (∀ b ∈ fp, H' b = none) ∧ W i n zs H') ?_ m0 ⟨0, [], _, I2, st2, fr0, w0⟩
    rintro n s3 ⟨i, zs, H3, I3, st3, fr3, w3⟩
    obtain ⟨hD3, tr⟩ := turn i n zs H3 w3
    rcases tr with ⟨stop, fin⟩ | ⟨go, N, hN, step⟩
    · refine thn (T.done (X.blk (x :: ys) sc cl s1.heap.objs.size s1 (upd H s.heap.objs.size (.lst [])) fp) rfl rfl rfl hc i [] s3 _ H3 _ I3 (stat fr3 (fun _ _ _ z => nomatch z)) st3 stop) fun r s4 ⟨hr, I4⟩ => ?_
      subst hr
      obtain ⟨I5, F5, oC, m, ho, hns, I6⟩ := blk_end I1 hf1 I4
      exact hRR _ _ oC m _ _ I5 F5 ho hns I6 fin
    · refine thn (T.item (X.blk (x :: ys) sc cl s1.heap.objs.size s1 (upd H s.heap.objs.size (.lst [])) fp) rfl rfl rfl hc i [] s3 _ H3 _ I3 (stat fr3 (fun _ _ _ z => nomatch z)) st3 go) fun r s4 ⟨u, hr, h4⟩ => ?_
      subst hr
      show wpAny _ _ (letOwnedTupleGo (.Name x px) (.ref it) u >>= fun _ => assign (.Name x px) (compEnvC sc cl s1.heap.objs.size X.env) u) _ _ s4
      refine wpAny_bind (thn h4 fun _ s5 ⟨v, H5, I5, r5, y5, st5, fr5⟩ => ?_)
      have I5' := I5.pinned (stat fr5 (fun _ _ _ z => nomatch z)) (T.obj _ _ st5)
      refine wpAny_mono (pg_name (X := X.blk (x :: ys) sc cl s1.heap.objs.size s1 (upd H s.heap.objs.size (.lst [])) fp) (i := 0) (pos := px) S.nd rfl (.inl (lookup_relabel_local S.var)) (.inr (lookup_relabel_local S.var)) _ s5 _ H5 v u (fun σ' H' => σ' = blkSt js σ (some v) ∧ H' = H5) I5' r5 ⟨rfl, rfl⟩)
        (fun _ s6 ⟨σ6, H6, I6, e6, e7⟩ => ?_) (fun _ _ z => nomatch z)
      subst e6; subst e7
      refine wpAny_mono (ht _ _ _ _ _ _ s6 _ _ _ I6 (step v H6 y5)) (fun b s7 ⟨H7, I7, q7⟩ => ?_) (fun _ _ z => nomatch z)
      -- the turn's end
      have again : ∀ {σ8 : St} {H8 : Hp} {s8 : Shared} {zs' : List V}, Inv (X.blk (x :: ys) sc cl s1.heap.objs.size s1 (upd H s.heap.objs.size (.lst [])) fp) ([] ++ pinsAt fp s5.heap) (blkSt js σ (some v)) H8 s8 → N zs' H8 →
          ∃ m, m < n ∧ ∃ i zs H', Inv (X.blk (x :: ys) sc cl s1.heap.objs.size s1 (upd H s.heap.objs.size (.lst [])) fp) [] (blkSt js σ none) H' s8 ∧ tn i s8.heap ∧ (∀ b ∈ fp, H' b = none) ∧ W i m zs H' := by
        intro σ8 H8 s8 zs' I8 n8
        obtain ⟨m', hm, w8⟩ := hN _ _ n8
        refine ⟨m', hm, i + 1, zs', H8, (Inv.unpinned I8).weak rfl (fun k w e => ?_), T.keep _ _ _ st5 fun b hb o e => (I8.pin (b, o) (List.mem_append_right _ (List.mem_append_right _ (mem_pinsAt hb e)))).1, fun b hb => ?_, w8⟩
        · cases k with
          | zero => cases (show some (none : Option V) = some (some w) from e)
          | succ k => exact e
        · obtain ⟨o, e, d⟩ := T.obj _ _ st5 b hb
          exact (I8.pin (b, o) (List.mem_append_right _ (List.mem_append_right _ (mem_pinsAt hb e)))).2.1
      cases b with
      | false =>
        rw [if_neg Bool.false_ne_true] at q7
        rw [if_neg Bool.false_ne_true]
        exact again (σ8 := []) I7 q7
      | true =>
        rw [if_pos rfl] at q7
        rw [if_pos rfl]
        refine wpAny_mono (he _ _ _ _ _ _ s7 _ _ _ I7 q7) (fun u8 s8 ⟨y8, H8, I8, r8, hD8, hz8, q8⟩ => ?_) (fun _ _ z => nomatch z)
        refine wpAny_mono (mt_append (X := X.blk (x :: ys) sc cl s1.heap.objs.size s1 (upd H s.heap.objs.size (.lst [])) fp) _ s8 _ H8 (.ref s.heap.objs.size) [y8] (.ref s.heap.objs.size) [u8] (fun _ H9 => H9 = upd H8 s.heap.objs.size (.lst (zs ++ [y8]))) I8 rfl (.cons r8 .nil)
          ⟨_, zs, y8, rfl, rfl, hD8, hz8, rfl⟩) (fun _ s9 ⟨_, H9, I9, _, e9⟩ => ?_) (fun _ _ z => nomatch z)
        subst e9
        exact again (σ8 := []) I9 q8
  exact codeAny_compStart_list loop (T.self X.A 0 _ _ _ st2 loop)
end

/-- [elt for x in iter if ..] -/
def tComp (wi : TI) (js : List Nat) (tc : TT) (te : TE) : TE := fun σ H Q => wi σ H fun J H1 => CompBy js tc te σ J H1 fun D H2 => Q (.ref D) H2
/-- y = [elt for x in iter if ..], the stores exchanged -/
def tSetC (i : Nat) (wi : TI) (js : List Nat) (tc : TT) (te : TE) : TS := fun D σ H => wi σ H fun J H1 => CompBy js tc te σ J H1 fun a H2 => D.nx (σ.set i (some (.ref a))) H2
section
variable {X : Cx} {elt iter : Expr} {x : Str} {ys : List Str} {js : List Nat} {sc : Scope} {ifs : List Expr} {px pos : Pos} {wi : TI} {tc : TT} {te : TE}
theorem blk_cells {pins : List (Addr × Obj)} {σ : St} {H : Hp} {s : Shared} (I : Inv X pins σ H s) (S : BlkScope X.env.scope X.N x ys js sc) : ∀ y ∈ sc.names, y.2 = .free → ∃ c, X.env.cells.lookup y.1 = some c := fun y hy hf => I.ok.has y.1 (S.out y hy hf)
theorem pe_comp (S : BlkScope X.env.scope X.N x ys js sc) (hc : X.calm = true) (hi : PI X (.Name x px) iter wi) (ht : ∀ cl C s H ex, PTs (X.blk (x :: ys) sc cl C s H ex) ifs tc) (he : ∀ cl C s H ex, PE (X.blk (x :: ys) sc cl C s H ex) elt te)
    (hs : ∀ v, foldedSetIterable iter X.env v = pure v := by intro _; rfl) : PE X (.ListComp elt [⟨.Name x px, iter, ifs, 0⟩] sc pos) (tComp wi js tc te) := by
  intro pins s σ H Q I h
  obtain ⟨cl, ecl, h1, h2⟩ := closure_ok (blk_cells I S)
  rw [eval_ListComp]
  refine wpAny_comprehension_free (use := none) rfl hs ecl S.kind S.loc (thn (hi pins s σ H _ I h) fun v s1 hv => thn hv fun itv s2 h2' => ?_)
  obtain ⟨it, fp, tn, J, H2, e, I2, T, st2, f2, q2⟩ := h2'
  subst e
  refine comp_block (RR := fun acc C => compPost (model X.prog X.w) X.A X.xe none (EP X pins σ Q) acc C) hc I2 S h1 h2 T st2 f2 ht he q2 ?_
  intro D C oC m s5 H5 I5 F5 ho hns I6 fin
  refine ⟨m, hns _ ho, fun h' hs' => ⟨.ref D, H5, ?_, rfl, fin⟩⟩
  exact I5.turned (t' := s5.toks) (fun b o hb e => hs'.extBut b o hb e) F5.1 F5.2.1 F5.2.2.2.1 F5.2.2.2.2.1 F5.2.2.2.2.2
theorem ps_setC {i : Nat} {y : Str} {py spos : Pos} (hN : X.N.Nodup) (hiN : X.N[i]? = some y) (hy : X.env.scope.names.lookup y = some .local) (S : BlkScope X.env.scope X.N x ys js sc) (hc : X.calm = true) (hi : PI X (.Name x px) iter wi)
    (ht : ∀ cl C s H ex, PTs (X.blk (x :: ys) sc cl C s H ex) ifs tc) (he : ∀ cl C s H ex, PE (X.blk (x :: ys) sc cl C s H ex) elt te)
    (hsw : swapsWith (.ListComp elt [⟨.Name x px, iter, ifs, 0⟩] sc pos) (some (.Name y py)) spos.line X.env = pure true := by rfl)
    (hs : ∀ v, foldedSetIterable iter X.env v = pure v := by intro _; rfl) : PS X (.Assign [.Name y py] (.ListComp elt [⟨.Name x px, iter, ifs, 0⟩] sc pos) spos) (tSetC i wi js tc te) := by
  intro pins s σ H D I h
  obtain ⟨cl, ecl, h1, h2⟩ := closure_ok (blk_cells I S)
  rw [exec_Assign_Name_used _ _ _ _ hsw]
  refine wpAny_bind (wpAny_standAt (wpAny_bind ?_))
  show wpAny _ X.A (do let _ ← comprehension (.ListComp elt [⟨.Name x px, iter, ifs, 0⟩] sc pos) sc X.env _ (newList []) false (eval iter X.env) (some (assign (.Name y py) X.env))) _ _ s
  refine wpAny_bind (wpAny_mono (wpAny_comprehension_free (use := some (assign (.Name y py) X.env)) (Q := fun _ s' => SP X pins D .next s') rfl hs ecl S.kind S.loc (thn (hi pins s σ H _ I h) fun v s1 hv => thn hv fun itv s2 h2' => ?_))
    (fun _ s' hq => wpAny_pure (wpAny_pure hq)) fun _ _ e => e)
  obtain ⟨it, fp, tn, J, H2, e, I2, T, st2, f2, q2⟩ := h2'
  subst e
  refine comp_block (RR := fun acc C => compPost (model X.prog X.w) X.A X.xe (some (assign (.Name y py) X.env)) (fun _ s' => SP X pins D .next s') acc C) hc I2 S h1 h2 T st2 f2 ht he q2 ?_
  intro a C oC m s5 H5 I5 F5 ho hns I6 fin
  show wpAny _ X.A (assign (.Name y py) X.env (.ref a)) _ _ s5
  refine wpAny_mono (pg_name (X := X) (i := i) (pos := py) hN hiN (.inl hy) (.inr hy) _ s5 σ H5 (.ref a) (.ref a) (fun σ' H' => σ' = σ.set i (some (.ref a)) ∧ H' = H5) I6 rfl ⟨rfl, rfl⟩) (fun _ s6 ⟨σ6, H6, I7, e6, e7⟩ => ?_) fun _ _ e => e
  subst e6; subst e7
  have hC6 : s6.heap.get? C = some oC := (I7.pin (C, oC) (List.mem_append_right _ (List.mem_append_right _ (by simp)))).1
  refine ⟨m, hns _ hC6, fun h' hs' => ⟨_, H6, ?_, fin⟩⟩
  exact (Inv.unpinned I7).turned (t' := s6.toks) (fun b o hb e => hs'.extBut b o hb e) F5.1 F5.2.1 F5.2.2.2.1 F5.2.2.2.2.1 F5.2.2.2.2.2
end

end L2
namespace L2
open PySem PySem.Spec PyProof.Rows

def TupKeep (H H' : Hp) : Prop := ∀ b xs, H b = some (.tup xs) → H' b = some (.tup xs)
theorem Same.tk {H H' : Hp} (s : Same H H') : TupKeep H H' := fun b xs e => s b _ e
theorem TupKeep.trans {H H1 H2 : Hp} (a : TupKeep H H1) (b : TupKeep H1 H2) : TupKeep H H2 := fun c xs e => b c xs (a c xs e)
theorem TupKeep.upd {H : Hp} {D : Addr} {o : HO} (h : ∀ xs, H D ≠ some (.tup xs)) : TupKeep H (upd H D o) := fun b xs e => by
  rw [upd_ne (by rintro rfl; exact h xs e)]; exact e
theorem Same.upd {H H' : Hp} {D : Addr} {o : HO} (s : Same H H') (h : H D = none) : Same H (upd H' D o) := fun b u e => by
  rw [upd_ne (by rintro rfl; rw [h] at e; cases e)]; exact s b u e
theorem Same.new {H : Hp} {D : Addr} {o : HO} (h : H D = none) : Same H (L2.upd H D o) := Same.upd (Same.refl H) h
theorem Same.seqT {K : PySem.W.Frag} {H H' : Hp} {a : Addr} {xs : List V} (e : Same H H') (h : SqT K H a xs) : SqT K H' a xs := by
  rcases h with (h | ⟨o, h⟩) | h
  · exact .inl (.inl (e _ _ h))
  · exact .inl (.inr ⟨o, e _ _ h⟩)
  · exact .inr h

theorem prd_append {α β : Type} {R : α → β → Prop} : ∀ {a a' : List α} {b b' : List β}, Paired R a b → Paired R a' b' → Paired R (a ++ a') (b ++ b')
  | _, _, _, _, .nil, q => q
  | _, _, _, _, .cons r t, q => .cons r (prd_append t q)
theorem prd_len {α β : Type} {R : α → β → Prop} : ∀ {a : List α} {b : List β}, Paired R a b → a.length = b.length
  | _, _, .nil => rfl
  | _, _, .cons _ t => congrArg (· + 1) (prd_len t)
theorem prd_get {α β : Type} {R : α → β → Prop} : ∀ {a : List α} {b : List β} {i : Nat} {y : β}, Paired R a b → b[i]? = some y → ∃ x, a[i]? = some x ∧ R x y
  | _, _, _, _, .nil, e => by simp at e
  | _, _, 0, _, .cons r _, e => by simp at e; subst e; exact ⟨_, rfl, r⟩
  | _, _, i + 1, y, .cons _ t, e => by
    obtain ⟨x, h1, h2⟩ := prd_get (i := i) (y := y) t (by simpa using e)
    exact ⟨x, by simpa using h1, h2⟩
theorem prd_imp {α β : Type} {R S : α → β → Prop} (f : ∀ x y, R x y → S x y) : ∀ {a : List α} {b : List β}, Paired R a b → Paired S a b
  | _, _, .nil => .nil
  | _, _, .cons r t => .cons (f _ _ r) (prd_imp f t)
theorem prd_map {α β : Type} {g : β → α} : ∀ {a : List α} {b : List β}, Paired (fun x y => x = g y) a b → a = b.map g
  | _, _, .nil => rfl
  | _, _, .cons r t => by rw [r, prd_map t]; rfl
theorem comp_grow {α β : Type} {js : List Nat} {tc : TT} {te : TE} {σ : St} {H : Hp} {Fin : Addr → Hp → Prop} {J : It} (bs : List β) (val : β → V) (p : β → Bool) (f : β → α) (R : Hp → V → α → Prop)
    (mono : ∀ H1 H2 v c, TupKeep H1 H2 → R H1 v c → R H2 v c)
    (hJ : ∀ H', Same H H' → (∀ i b, bs[i]? = some b → J.go i H' ∧ ∀ v H2, J.yld i H' v H2 → v = val b ∧ H2 = H') ∧ J.stop bs.length H')
    (ht : ∀ b H', b ∈ bs → Same H H' → ∀ Q2 : Bool → Hp → Prop, (∀ H3, Same H' H3 → Q2 (p b) H3) → tc (blkSt js σ (some (val b))) H' Q2)
    (he : ∀ b H', b ∈ bs → p b = true → Same H H' → ∀ Q2 : VK, (∀ y H4, Same H' H4 → R H4 y (f b) → Q2 y H4) → te (blkSt js σ (some (val b))) H' Q2)
    (hn : bs.length ≤ sizeLine)
    (hd : ∀ D ws H', H D = none → Same H H' → H' D = some (.lst ws) → Paired (R H') ws ((bs.filter p).map f) → Fin D H') : CompBy js tc te σ J H Fin := by
  intro D hD
  have tkeep : ∀ {H4 : Hp} {ys zs : List V}, H4 D = some (.lst ys) → TupKeep H4 (upd H4 D (.lst zs)) := fun e => TupKeep.upd fun xs z => by rw [e] at z; cases z
  let Pv : Nat → List V → Hp → Prop := fun i ys H' => Same H H' ∧ H' D = some (.lst ys) ∧ Paired (R H') ys (((bs.take i).filter p).map f)
  refine ⟨fun i m ys H' => m = bs.length - i ∧ i ≤ bs.length ∧ Pv i ys H', ⟨bs.length, by simp, Nat.zero_le _, Same.new hD, upd_same, by simpa using Paired.nil⟩, ?_⟩
  rintro i m ys H' ⟨rfl, hi, sm, hL, pr⟩
  refine ⟨hL, ?_⟩
  by_cases hlt : i < bs.length
  · have hx : bs[i]? = some bs[i] := by simp [hlt]
    have hmem : bs[i] ∈ bs := List.getElem_mem hlt
    have htake : bs.take (i + 1) = bs.take i ++ [bs[i]] := by rw [List.take_add_one, hx]; rfl
    obtain ⟨g1, g2⟩ := (hJ H' sm).1 i _ hx
    have hyl : ys.length ≤ i := by
      have e := prd_len pr
      rw [List.length_map] at e
      have e2 := List.length_filter_le p (bs.take i)
      rw [List.length_take] at e2
      omega
    refine .inr ⟨g1, Pv (i + 1), fun zs H'' p' => ⟨bs.length - (i + 1), by omega, rfl, hlt, p'⟩, fun v H2 y => ?_⟩
    obtain ⟨e, y'⟩ := g2 v H2 y
    subst e; subst y'
    refine ht _ _ hmem sm _ fun H3 s3 => ?_
    have sm3 : Same H H3 := sm.trans s3
    have pr3 : Paired (R H3) ys (((bs.take i).filter p).map f) := prd_imp (fun x y r => mono _ _ _ _ s3.tk r) pr
    refine if2 (fun hp => ?_) (fun hp => ?_)
    · refine he _ _ hmem hp sm3 _ fun y4 H4 s4 r4 => ?_
      have hL4 : H4 D = some (.lst ys) := s4 _ _ (s3 _ _ hL)
      refine ⟨hL4, by omega, (sm3.trans s4).upd hD, upd_same, ?_⟩
      rw [htake, List.filter_append, List.map_append]
      have e1 : List.filter p [bs[i]] = [bs[i]] := by simp [hp]
      rw [e1]
      refine prd_append (prd_imp (fun x y r => mono _ _ _ _ (s4.tk.trans (tkeep hL4)) r) pr3) (.cons (mono _ _ _ _ (tkeep hL4) r4) .nil)
    · refine ⟨sm3, s3 _ _ hL, ?_⟩
      rw [htake, List.filter_append, List.map_append]
      have e1 : List.filter p [bs[i]] = [] := by simp [hp]
      rw [e1]
      simpa using pr3
  · have e : i = bs.length := by omega
    subst e
    refine .inl ⟨(hJ H' sm).2, hd D ys H' hD sm hL ?_⟩
    rwa [List.take_length] at pr
theorem it_range (H : Hp) (lo : Int) (n : Nat) : ∀ H', Same H H' → (∀ i b, ((List.range n).map fun (i : Nat) => lo + (i : Int))[i]? = some b → (Itr lo n).go i H' ∧ ∀ v H2, (Itr lo n).yld i H' v H2 → v = V.int b ∧ H2 = H') ∧ (Itr lo n).stop ((List.range n).map fun (i : Nat) => lo + (i : Int)).length H' := by
  intro H' _
  refine ⟨fun i b e => ?_, by show n ≤ _; simp⟩
  rw [List.getElem?_map] at e
  by_cases hi : i < n
  · rw [List.getElem?_range hi] at e
    have e : lo + (i : Int) = b := Option.some.inj e
    refine ⟨hi, fun v H2 y => ⟨?_, y.1⟩⟩
    rw [y.2, e]
  · rw [List.getElem?_eq_none (by simpa using hi)] at e
    cases e
theorem it_tup {K : PySem.W.Frag} {H : Hp} {a : Addr} {β : Type} (bs : List β) (val : β → V) (h : SqT K H a (bs.map val)) : ∀ H', Same H H' → (∀ i b, bs[i]? = some b → (Itt K a).go i H' ∧ ∀ v H2, (Itt K a).yld i H' v H2 → v = val b ∧ H2 = H') ∧ (Itt K a).stop bs.length H' := by
  intro H' sm
  have h' := sm.seqT h
  have e1 : ∀ i b, bs[i]? = some b → (bs.map val)[i]? = some (val b) := fun i b e => by rw [List.getElem?_map, e]; rfl
  refine ⟨fun i b e => ⟨⟨_, _, h', e1 i b e⟩, fun v H2 y => ⟨?_, y.1⟩⟩, ⟨_, h', by simp⟩⟩
  have q := y.2 _ h'
  rw [e1 i b e] at q
  exact (Option.some.inj q).symm
theorem it_list {K : PySem.W.Frag} {H : Hp} {a : Addr} {β : Type} (bs : List β) (val : β → V) (h : SqL K H a (bs.map val)) : ∀ H', Same H H' → (∀ i b, bs[i]? = some b → (Itl K a).go i H' ∧ ∀ v H2, (Itl K a).yld i H' v H2 → v = val b ∧ H2 = H') ∧ (Itl K a).stop bs.length H' := by
  intro H' sm
  have h' := sm.seq h
  have e1 : ∀ i b, bs[i]? = some b → (bs.map val)[i]? = some (val b) := fun i b e => by rw [List.getElem?_map, e]; rfl
  refine ⟨fun i b e => ⟨⟨_, _, h', e1 i b e⟩, fun v H2 y => ⟨?_, y.1⟩⟩, ⟨_, h', by simp⟩⟩
  have q := y.2 _ h'
  rw [e1 i b e] at q
  exact (Option.some.inj q).symm
end L2
namespace L2
open PySem PySem.Spec PyProof.Rows
section
variable {X : Cx}
/-- sum(xs), a list of ints -/
theorem call_sum (hc : X.calm = true) : CallR X (.builtin "sum") (fun xs H Q => ∃ (p : Addr) (ns : List Int), xs = [.ref p] ∧ SqL X.K H p (ns.map V.int) ∧ Q (.int ns.sum) H) := by
  intro pins s σ H xs us Q I r h
  obtain ⟨p, ns, rfl, hq, q⟩ := h
  obtain ⟨u, rfl, ru⟩ := vals1 r
  cases ru
  obtain ⟨its, rv, pl, hz⟩ := I.list hq
  have hi : IntsAre its ns := intsAre_of rv
  obtain ⟨xs, ex⟩ := hi.allInts.items
  have hl := pl.isList
  rw [ex] at hl
  refine sum_intListG (I.ok.hd hc) hl fun h' tk t' k => ⟨.int ns.sum, H, I.kept k, ⟨t', ?_⟩, q⟩
  have e1 : xs.toList.map (·.1) = ns := by rw [← nums_intItems, ← ex, ← hi.numsOf]
  rw [preSum_eq, List.take_of_length_le (by simp), e1]
end
end L2
namespace My
open PySem L2

theorem mod_lo (x : Int) {n : Int} (h : 0 < n) : 0 ≤ x % n := Int.emod_nonneg x (by omega)
theorem mod_hi (x : Int) {n : Int} (h : 0 < n) : x % n < n := Int.emod_lt_of_pos x h
def kS (t : Bool) : Str := match t with
  | true => "turn"
  | false => "mirror"
abbrev chV (t : Bool) (m : Int) : List V := [V.str (kS t), V.int m]
theorem two_fit : 2 ≤ sizeLine := by decide

def rng (n : Int) : List Int := (List.range n.toNat).map fun (i : Nat) => 0 + (i : Int)
theorem rng_len (n : Int) : (rng n).length = n.toNat := by simp [rng]
theorem rng_get (n : Int) {i : Nat} (h : i < n.toNat) : (rng n)[i]? = some (0 + (i : Int)) := by
  unfold rng
  rw [List.getElem?_map, List.getElem?_range h]
  rfl
theorem filter_all {α : Type} (l : List α) : l.filter (fun _ => true) = l := by simp

theorem rng_mem {n x : Int} : x ∈ rng n ↔ 0 ≤ x ∧ x < n := by
  unfold rng
  rw [List.mem_map]
  constructor
  · rintro ⟨i, hi, rfl⟩
    have := List.mem_range.mp hi
    omega
  · rintro ⟨h0, h1⟩
    exact ⟨x.toNat, List.mem_range.mpr (by omega), by omega⟩
theorem fit1000 {k : Nat} (h : k ≤ 1000) : k ≤ sizeLine := Nat.le_trans h (by decide)
end My
namespace L2
open PySem
/-- a comprehension of ints -/
theorem comp_int {β : Type} {js : List Nat} {tc : TT} {te : TE} {σ : St} {H : Hp} {Fin : Addr → Hp → Prop} {J : It} (bs : List β) (val : β → V) (p : β → Bool) (f : β → Int)
    (hJ : ∀ H', Same H H' → (∀ i b, bs[i]? = some b → J.go i H' ∧ ∀ v H2, J.yld i H' v H2 → v = val b ∧ H2 = H') ∧ J.stop bs.length H')
    (ht : ∀ b H', b ∈ bs → Same H H' → ∀ Q2 : Bool → Hp → Prop, (∀ H3, Same H' H3 → Q2 (p b) H3) → tc (blkSt js σ (some (val b))) H' Q2)
    (he : ∀ b H', b ∈ bs → p b = true → Same H H' → ∀ Q2 : VK, (∀ H4, Same H' H4 → Q2 (.int (f b)) H4) → te (blkSt js σ (some (val b))) H' Q2)
    (hn : bs.length ≤ sizeLine)
    (hd : ∀ D H', H D = none → Same H H' → H' D = some (.lst (((bs.filter p).map f).map V.int)) → Fin D H') : CompBy js tc te σ J H Fin :=
  comp_grow bs val p f (fun _ v c => v = .int c) (fun _ _ _ _ _ r => r) hJ ht (fun b H' hb hp s Q2 h => he b H' hb hp s Q2 fun H4 s4 => h _ H4 s4 rfl) hn
    fun D ws H' h0 s hL pr => hd D H' h0 s (by rw [hL, prd_map pr])
end L2
namespace L2
open PySem PySem.Spec PyProof.Rows
/-- a way to read values: what is read is one thing, and two values are equal just where they are read alike -/
structure EqOk (K : PySem.W.Frag) (d : Nat) {α : Type} [DecidableEq α] (R : Hp → V → α → Prop) : Prop where
  fn : ∀ {H x a b}, R H x a → R H x b → a = b
  eq : ∀ {X : Cx} {A : Around} {pins : List (Addr × Obj)} {σ : List (Option V)} {H : Hp} {s : Shared} {x y : V} {v u : Value} {a b : α}, X.K = K → Inv X pins σ H s → RelV x v → RelV y u → R H x a → R H y b → A.units + d < cLine → SeqAt.EqAt A s v u (decide (a = b))
def StrR (_ : Hp) (x : V) (t : Str) : Prop := x = .str t
theorem eqok_str {K : PySem.W.Frag} : EqOk K 0 StrR where
  fn := by
    rintro H x a b h k
    cases h
    cases k
    rfl
  eq := by
    rintro X A pins σ H s x y v u a b hK I r r' h k hu
    cases h
    cases k
    have e : decide (a = b) = eqV (V.str a) (V.str b) := by
      rw [eqV_plain rfl rfl, Bool.eq_iff_iff]
      simp
    rw [e]
    exact eqAt_V r r' rfl rfl
theorem prd_at {α : Type} {R : V → α → Prop} : ∀ {xs : List V} {as : List α} {i : Nat} {x : V}, Paired R xs as → xs[i]? = some x → ∃ a, as[i]? = some a ∧ R x a
  | [], _, _, _, .nil, e => by simp at e
  | _ :: _, _, 0, _, .cons r _, e => by simp at e; subst e; exact ⟨_, rfl, r⟩
  | _ :: _, _, i + 1, x, .cons _ t, e => by
    simp at e
    obtain ⟨a, h, r⟩ := prd_at t e
    exact ⟨a, by simpa using h, r⟩
/-- equal at every place and as long -/
theorem all_get {α : Type} [DecidableEq α] (as bs : List α) : ((List.range (min as.length bs.length)).all (fun j => decide (as[j]? = bs[j]?)) && as.length == bs.length) = decide (as = bs) := by
  rw [Bool.eq_iff_iff, Bool.and_eq_true, List.all_eq_true, beq_iff_eq, decide_eq_true_eq]
  constructor
  · rintro ⟨h, e⟩
    refine List.ext_getElem? fun j => ?_
    by_cases hj : j < as.length
    · exact of_decide_eq_true (h j (List.mem_range.mpr (by omega)))
    · rw [List.getElem?_eq_none (by omega), List.getElem?_eq_none (by omega)]
  · rintro rfl
    exact ⟨fun j _ => decide_eq_true rfl, rfl⟩
section
variable {K : PySem.W.Frag} {d : Nat} {α : Type} [DecidableEq α] {R : Hp → V → α → Prop}
theorem eqok_items (ok : EqOk K d R) {X : Cx} {A : Around} {pins : List (Addr × Obj)} {σ : List (Option V)} {H : Hp} {s : Shared} (hK : X.K = K) (I : Inv X pins σ H s) {xs ys : List V} {as bs : List α} {its its2 : List Value}
    (r : Vals xs its) (r2 : Vals ys its2) (pa : Paired (R H) xs as) (pb : Paired (R H) ys bs) (hu : A.units + d < cLine) :
    ∀ j (h1 : j < its.toArray.size) (h2 : j < its2.toArray.size), SeqAt.EqAt A s its.toArray[j] its2.toArray[j] (decide (as[j]? = bs[j]?)) := by
  intro j h1 h2
  have e1 := r.length
  have e2 := r2.length
  rw [List.size_toArray] at h1 h2
  have g1 : xs[j]? = some xs[j] := by simp
  have g2 : ys[j]? = some ys[j] := by simp
  obtain ⟨u, hu1, ru⟩ := r.get g1
  obtain ⟨v, hv1, rv⟩ := r2.get g2
  obtain ⟨a, ha, ra⟩ := prd_at pa g1
  obtain ⟨b, hb, rb⟩ := prd_at pb g2
  have z1 : its.toArray[j]'(by rw [List.size_toArray]; exact h1) = u := by
    obtain ⟨_, q⟩ := List.getElem?_eq_some_iff.mp hu1
    simpa using q
  have z2 : its2.toArray[j]'(by rw [List.size_toArray]; exact h2) = v := by
    obtain ⟨_, q⟩ := List.getElem?_eq_some_iff.mp hv1
    simpa using q
  rw [z1, z2, ha, hb]
  have e : decide (some a = some b) = decide (a = b) := by rw [Bool.eq_iff_iff]; simp
  rw [e]
  exact ok.eq hK I ru rv ra rb hu
theorem sizes {xs ys : List V} {as bs : List α} {its its2 : List Value} {P P' : V → α → Prop} (r : Vals xs its) (r2 : Vals ys its2) (pa : Paired P xs as) (pb : Paired P' ys bs) : its.toArray.size = as.length ∧ its2.toArray.size = bs.length := by
  rw [List.size_toArray, List.size_toArray, ← r.length, ← r2.length]
  exact ⟨prd_len pa, prd_len pb⟩
variable {X : Cx}
def rEqTd (K : PySem.W.Frag) (R : Hp → V → α → Prop) (g : Bool → Bool) : R2 := fun x y H Q => ∃ a b xs ys as bs, x = .ref a ∧ y = .ref b ∧ SqT K H a xs ∧ SqT K H b ys ∧ Paired (R H) xs as ∧ Paired (R H) ys bs ∧ Q (.bl (g (decide (as = bs)))) H
theorem op_neTd (ok : EqOk X.K d R) (hd : d ≤ 60) (hu : X.A.units + 64 < cLine) : OpR X (compareOp .NotEq) (rEqTd X.K R fun b => !b) := by
  intro pins s σ H x y v u Q I rx ry h
  obtain ⟨a, b, xs, ys, as, bs, rfl, rfl, ha, hb, pa, pb, q⟩ := h
  cases rx; cases ry
  obtain ⟨its, r, p, hz⟩ := I.tuple ha
  obtain ⟨its2, r2, p2, hz2⟩ := I.tuple hb
  obtain ⟨z1, z2⟩ := sizes r r2 pa pb
  refine SeqAt.RcNeAt.tuples p p2 (by omega) (eqok_items (A := X.A.in1) ok rfl I r r2 pa pb (by show X.A.units + 1 + d < cLine; omega)) _ _ _ _ ⟨.bl _, H, I, rfl, ?_⟩
  rw [z1, z2, all_get]
  exact q
end
end L2
namespace L2
open PySem PySem.Spec PyProof.Rows
section
variable {X : Cx} {tg : Expr}
/-- a text cut -/
def cutS (x : Str) (lo hi : Option Int) : Str := ⟨((x.cps.toList.drop (HT.sIx x.length 0 lo)).take (HT.sIx x.length x.length hi - HT.sIx x.length 0 lo)).toArray⟩
def clp (n : Nat) (d : Int) : Option Int → Int
  | none => d
  | some i => max (0 : Int) (min (if i < 0 then i + (n : Int) else i) (n : Int))
theorem idx_cut (lo hi : Option Int) (n : Nat) : Builtin.Str.strSliceIndices lo hi 1 n = (List.range (HT.sIx n n hi - HT.sIx n 0 lo)).map (fun k => HT.sIx n 0 lo + k) := by
  have cl : ∀ (o : Option Int) (d : Nat), d ≤ n → clp n (d : Int) o = ((HT.sIx n d o : Nat) : Int) := by
    intro o d hd
    cases o with
    | none => rfl
    | some v =>
      show max (0 : Int) (min (if v < 0 then v + (n : Int) else v) (n : Int)) = (((if v < 0 then (v + (n : Int)).toNat else min v.toNat n) : Nat) : Int)
      by_cases h : v < 0
      · rw [if_pos h, if_pos h]; omega
      · rw [if_neg h, if_neg h]; omega
  have a := cl lo 0 (Nat.zero_le _)
  have b := cl hi n (Nat.le_refl _)
  have la := HT.sIx_le n 0 (Nat.zero_le _) lo
  have lb := HT.sIx_le n n (Nat.le_refl _) hi
  have key : Builtin.Str.strSliceIndices lo hi 1 n = sliceRange (clp n ((0 : Nat) : Int) lo) (clp n (n : Int) hi) 1 := by
    cases lo <;> cases hi <;> rfl
  rw [key, a, b]
  generalize HT.sIx n 0 lo = p at *
  generalize HT.sIx n n hi = q at *
  unfold sliceRange
  simp only [show ((1 : Int) > 0) = True from by simp, if_true, Int.ediv_one, Int.one_mul]
  have e : (if (p : Int) < (q : Int) then (q : Int) - (p : Int) + 1 - 1 else 0).toNat = q - p := by split <;> omega
  rw [e]
  exact List.map_congr_left fun k _ => by omega
theorem cut_is (x : Str) (lo hi : Option Int) : (⟨((Builtin.Str.strSliceIndices lo hi 1 x.length).filterMap (x.cps[·]?)).toArray⟩ : Str) = cutS x lo hi := by
  unfold cutS
  rw [idx_cut]
  have la := HT.sIx_le x.length 0 (Nat.zero_le _) lo
  have lb := HT.sIx_le x.length x.length (Nat.le_refl _) hi
  have hl : x.cps.toList.length = x.length := by simp [Str.length]
  by_cases h : HT.sIx x.length 0 lo ≤ HT.sIx x.length x.length hi
  · have := PySem.StrLaws.picks x.cps.toList (HT.sIx x.length x.length hi - HT.sIx x.length 0 lo) (HT.sIx x.length 0 lo) (by omega)
    rw [← this]
    simp
  · have e : HT.sIx x.length x.length hi - HT.sIx x.length 0 lo = 0 := by omega
    rw [e]
    simp
theorem cut_len (x : Str) (lo hi : Option Int) : (cutS x lo hi).length ≤ x.length := by
  unfold cutS Str.length
  simp
  omega
theorem cut_whole {x : Str} {lo hi : Option Int} (h : (Builtin.Str.strSliceIndices lo hi 1 x.length).length = x.length) : cutS x lo hi = x := by
  rw [idx_cut, List.length_map, List.length_range] at h
  have la := HT.sIx_le x.length 0 (Nat.zero_le _) lo
  have lb := HT.sIx_le x.length x.length (Nat.le_refl _) hi
  have hl : x.cps.toList.length = x.length := by simp [Str.length]
  unfold cutS
  rw [h]
  obtain ⟨cps⟩ := x
  congr 1
  by_cases z : Str.length ⟨cps⟩ = 0
  · have e : cps = #[] := Array.eq_empty_of_size_eq_zero z
    rw [e]
    simp
  · have e0 : HT.sIx (Str.length ⟨cps⟩) 0 lo = 0 := by omega
    rw [e0, List.drop_zero, List.take_of_length_le (Nat.le_of_eq hl), Array.toArray_toList]
def rSlStr : V → Option Int → Option Int → Hp → VK → Prop := fun x lo hi H Q => ∃ z, x = .str z ∧ z.length ≤ sizeLine ∧ Q (.str (cutS z lo hi)) H
theorem sl_str : SlR X rSlStr := by
  intro pins s σ H x v vl vu lo hi sl Q I rx hs pl pu h
  obtain ⟨z, rfl, hz, q⟩ := h
  obtain ⟨t, rfl⟩ := rx
  have post : ∀ (l u : Option (Int × Tok)), l.map (·.1) = lo → u.map (·.1) = hi → (sliceMade z t l u none).post (EP X pins σ Q) s := by
    intro l u el eu
    unfold sliceMade slicePicked
    have e1 : (((none : Option (Int × Tok)).map (·.1)).getD 1) = (1 : Int) := rfl
    rw [e1, el, eu]
    split
    · next hw =>
      rw [Bool.and_eq_true, beq_iff_eq, beq_iff_eq] at hw
      rw [cut_whole hw.2] at q
      exact ⟨.str z, H, I, ⟨t, rfl⟩, q⟩
    · refine ⟨?_, ?_⟩
      · rw [cut_is]
        exact Nat.le_trans (cut_len z lo hi) hz
      · rw [cut_is]
        exact ⟨.str _, H, I.tok _, ⟨_, rfl⟩, q⟩
  obtain ⟨os, hos, hcs, hds⟩ := id hs
  cases pl with
  | none =>
    cases pu with
    | none => exact ⟨"str", _, F.slot_str_getitem.lookup, typeIs_str _ _ _, wpAny_getItem_str_slice (l := none) (u := none) (st := none) ⟨os, hos, hcs, hds⟩ rfl (post none none rfl rfl)⟩
    | int j uj => exact ⟨"str", _, F.slot_str_getitem.lookup, typeIs_str _ _ _, wpAny_getItem_str_slice (l := none) (u := some (j, uj)) (st := none) ⟨os, hos, hcs, hds⟩ rfl (post none (some (j, uj)) rfl rfl)⟩
  | int i ui =>
    cases pu with
    | none => exact ⟨"str", _, F.slot_str_getitem.lookup, typeIs_str _ _ _, wpAny_getItem_str_slice (l := some (i, ui)) (u := none) (st := none) ⟨os, hos, hcs, hds⟩ rfl (post (some (i, ui)) none rfl rfl)⟩
    | int j uj => exact ⟨"str", _, F.slot_str_getitem.lookup, typeIs_str _ _ _, wpAny_getItem_str_slice (l := some (i, ui)) (u := some (j, uj)) (st := none) ⟨os, hos, hcs, hds⟩ rfl (post (some (i, ui)) (some (j, uj)) rfl rfl)⟩
end
end L2
namespace L2
open PySem PySem.Spec PyProof.Rows
theorem vals_bools : ∀ {bs : List Bool} {us : List Value}, Vals (bs.map V.bl) us → us = bs.map Value.bool
  | [], _, .nil => rfl
  | b :: bs, _, .cons r t => by
    cases r
    rw [List.map_cons, ← vals_bools t]
section
variable {X : Cx}
/-- all(xs), a list of bools -/
theorem call_all (hc : X.calm = true) : CallR X (.builtin "all") (fun xs H Q => ∃ (p : Addr) (bs : List Bool), xs = [.ref p] ∧ SqL X.K H p (bs.map V.bl) ∧ Q (.bl (bs.all id)) H) := by
  intro pins s σ H xs us Q I r h
  obtain ⟨p, bs, rfl, hq, q⟩ := h
  obtain ⟨u, rfl, ru⟩ := vals1 r
  cases ru
  obtain ⟨its, rv, pl, hz⟩ := I.list hq
  have e := vals_bools rv
  subst e
  have hp : p < s.heap.objs.size := by
    obtain ⟨o, n, ho, _⟩ := pl
    exact Heap.lt_size ho
  refine call_all_walk (wpAny_pyIter_list pl.isList ?_)
  have calm : X.A.in1.handled = none := I.ok.hd hc
  refine ⟨s.heap.objs.size, _, _, _, _, _, fun i => bs.getD i true, rfl, Walks.list (A := X.A.in1) calm s.heap.objs.size p (Nat.ne_of_lt hp) (bs.map Value.bool).toArray, ⟨⟨_, Heap.get?_push_size _ rfl, rfl, rfl⟩, pl.isList.at fun o e => Heap.get?_push_of_some _ e⟩, ?_, fun h' tk k => ?_⟩
  · intro i v s' Q' E' hv hQ
    have hv : (bs.map Value.bool).toArray[i]? = some v := hv
    rw [List.getElem?_toArray, List.getElem?_map] at hv
    cases g : bs[i]? with
    | none => rw [g] at hv; cases hv
    | some b =>
      rw [g] at hv
      cases hv
      have hQ : Q' (bs.getD i true) s' := hQ
      rw [List.getD_eq_getElem?_getD, g] at hQ
      exact wpAny_truthy_bool hQ
  · have ea : (List.range (bs.map Value.bool).toArray.size).all (fun i => bs.getD i true) = bs.all id := by
      rw [List.size_toArray, List.length_map, Bool.eq_iff_iff, List.all_eq_true, List.all_eq_true]
      constructor
      · intro h b hb
        obtain ⟨i, hi, rfl⟩ := List.getElem_of_mem hb
        have := h i (List.mem_range.mpr hi)
        rw [List.getD_eq_getElem?_getD, List.getElem?_eq_getElem hi] at this
        exact this
      · intro h i hi
        have hi := List.mem_range.mp hi
        rw [List.getD_eq_getElem?_getD, List.getElem?_eq_getElem hi]
        exact h _ (List.getElem_mem hi)
    refine ⟨.bl _, H, I.kept (t' := tk) fun b o e => k b o (fun z => ?_) (Heap.get?_push_of_some _ e), rfl, ?_⟩
    · have z : b = s.heap.objs.size := by simpa using z
      have := Heap.lt_size e
      rw [z] at this
      exact absurd this (Nat.lt_irrefl _)
    · rw [ea]
      exact q
end
end L2
namespace L2
open PySem PySem.Spec PyProof.Rows
/-- an exception in flight: its object, its traceback's head -/
def Fly (h : Heap) (a T : Addr) (cls : Value) : Prop :=
  ∃ oe vs a0 oT ts, h.get? a = some oe ∧ oe.cls = cls ∧ vs[0]? = some a0 ∧ oe.data = .fields vs ∧ vs[1]? = some (.ref T) ∧ T ≠ a ∧ h.get? T = some oT ∧ oT.data = .fields ts ∧ ts[3]? = some .none
/-- how an exception lies behind a call -/
def CXE (P : Program) (w : World) : CXT := fun outer H s E e s' =>
  ∃ (a T : Addr) (cls : Value) (H' : Hp), e = .ref a ∧ s'.os = s.os ∧ AllBare s'.gens ∧ Un (frs outer) [] H H' s.heap s'.heap ∧ HOk P w H' s'.heap ∧ H' a = none ∧ H' T = none ∧ s.heap.get? a = none ∧ s.heap.get? T = none ∧ Fly s'.heap a T cls ∧ E cls none H'
theorem funs_of {h base B : Heap} : ∀ {l : List Env}, h.FunFrames base l → (∀ b ∈ frs l, B.get? b = none) → h.FunFrames B l
  | [], _, _ => trivial
  | env :: l, ⟨k, ⟨L, o, hf, _, ho, hd⟩, r⟩, hb => by
    have e : frs (env :: l) = L :: frs l := by
      unfold frs
      rw [List.filterMap_cons, hf]
    rw [e] at hb
    exact ⟨k, ⟨L, o, hf, hb L (List.mem_cons_self ..), ho, hd⟩, funs_of r fun b z => hb b (List.mem_cons_of_mem _ z)⟩
theorem ok_there {P : Program} {w : World} {H : Hp} {h : Heap} {a : Addr} : ∀ {o : HO}, ObjOk P w H h a o → ∃ ob, h.get? a = some ob
  | .lst _, x => let ⟨_, _, _, _, e⟩ := x; ⟨_, e⟩
  | .tup _, x => let ⟨_, _, _, o, e, _⟩ := x; ⟨o, e⟩
  | .dK _, x => let ⟨_, _, _, _, o, _, _, e, _⟩ := x; ⟨o, e⟩
  | .dT _, x => let ⟨_, _, _, _, o, _, _, e, _⟩ := x; ⟨o, e⟩
  | .set _ _, x => let ⟨o, _, _, _, e, _⟩ := x; ⟨o, e⟩
  | .ins _ _ _, x => let ⟨_, _, _, e, _⟩ := x; ⟨_, e⟩
  | .own _, x => x
  | .xd _, x => let ⟨_, ⟨o, _, _, e, _⟩, _⟩ := x; ⟨o, e⟩
  | .rng _ _, x => let ⟨_, _, _, e⟩ := x; ⟨_, e⟩
  | .frz o _, x => ⟨o, x.1⟩
  | .tbl _, x => ⟨_, x⟩
  | .met _ _, x => ⟨_, x⟩
  | .ext _, x => x.2.1
section
variable {X : Cx} {pins : List (Addr × Obj)} {σ : St} {H : Hp} {s : Shared} {a T : Addr} {cls : Value} {h' : Heap}
/-- what stays when only the objects of the exception and the frames' slots change -/
structure Stays (X : Cx) (xs : List Addr) (h h' : Heap) : Prop where
  keep : ∀ b o, b ∉ xs → b ∉ frs X.stack → h.get? b = some o → h'.get? b = some o
  slot : ∀ b o, b ∈ frs X.stack → h.get? b = some o → ∃ sl, h'.get? b = some { o with slots := sl }
/-- the abstract heap behind it -/
theorem Inv.stays_hok (I : Inv X pins σ H s) {xs : List Addr} (st : Stays X xs s.heap h') (hx : ∀ b ∈ xs, H b = none) : HOk X.prog X.w H h' := fun b u e => by
  refine (I.hok b u e).stay (fun c v hc q => ?_) (fun _ q => q) fun _ _ q => q
  have tracked : H c ≠ none := by
    rcases hc with z | z
    · rw [z, e]; exact fun q => nomatch q
    · rw [z]; exact fun q => nomatch q
  exact st.keep c v (fun m => tracked (hx c m)) (fun m => tracked (I.stkFree c m)) q
theorem Inv.stays_un (I : Inv X pins σ H s) (hex : X.ex = []) {xs : List Addr} (st : Stays X xs s.heap h') (hx : ∀ b ∈ xs, X.s₀.heap.get? b = none) (hstk : X.stack = X.env :: X.outer ∧ X.env.frame = some X.env.locals) : Un X.fs [] X.H₀ H X.s₀.heap h' := by
  have I0 := I.base
  rw [hex] at I0
  have fr : frs X.stack = X.env.locals :: X.fs := by
    rw [hstk.1]
    unfold frs
    rw [List.filterMap_cons, hstk.2]
    rfl
  have old : ∀ b o, X.s₀.heap.get? b = some o → b ∉ xs ∧ b ≠ X.env.locals := fun b o e => by
    refine ⟨fun m => (by rw [hx b m] at e; cases e), fun z => ?_⟩
    have := Heap.lt_size e
    rw [z] at this
    exact absurd this (Nat.not_lt.mpr I.ok.above)
  have step : ∀ b o, X.s₀.heap.get? b = some o → ∀ o', s.heap.get? b = some o' → b ∉ X.fs → h'.get? b = some o' := fun b o e o' e' hb => by
    refine st.keep b o' (old b o e).1 ?_ e'
    rw [fr]
    intro m
    rcases List.mem_cons.mp m with z | z
    · exact (old b o e).2 z
    · exact hb z
  refine ⟨fun b o e n hb hx' => step b o e o (I0.keep b o e n hb hx') hb, fun b o e n hb hx' => ?_, fun b o e n hx' => I0.free b o e n hx', fun b o e hx' => ?_, I0.tups, I0.frzs, I0.tbls⟩
  · obtain ⟨sl, e1⟩ := I0.slot b o e n hb hx'
    obtain ⟨sl2, e2⟩ := st.slot b _ (by rw [fr]; exact List.mem_cons_of_mem _ hb) e1
    exact ⟨sl2, e2⟩
  · obtain ⟨o', e1⟩ := I0.there b o e hx'
    by_cases hb : b ∈ X.fs
    · obtain ⟨sl2, e2⟩ := st.slot b _ (by rw [fr]; exact List.mem_cons_of_mem _ hb) e1
      exact ⟨_, e2⟩
    · exact ⟨o', step b o e o' e1 hb⟩
theorem Inv.new0 (I : Inv X pins σ H s) (hex : X.ex = []) {b : Addr} (e : s.heap.get? b = none) : X.s₀.heap.get? b = none := by
  cases q : X.s₀.heap.get? b with
  | none => rfl
  | some o =>
    have h0 := I.base
    rw [hex] at h0
    obtain ⟨o', e'⟩ := h0.there b o q (by simp)
    rw [e] at e'
    cases e'
/-- the heap that is sure to stay: all but these and the frames -/
theorem left_stays (I : Inv X pins σ H s) {xs : List Addr} {e : Addr} {cls a0 : Value} (hstk : X.stack = X.env :: X.outer) (lf : Heap.LeftW (PySem.W.hideAll s.heap (xs ++ frs X.stack)) (X.env :: X.outer) e cls a0 s.heap h') : Stays X xs s.heap h' where
  keep := fun b o h1 h2 q => lf.1 b o (PySem.W.hideAll_get _ q fun m => (List.mem_append.mp m).elim h1 h2)
  slot := fun b o hb q => by
    obtain ⟨_, o', e', n⟩ := I.stack.mem hb
    rw [q] at e'
    cases e'
    exact lf.2.2.2 b o q n
theorem Inv.fresh_of (I : Inv X pins σ H s) {b : Addr} (e : s.heap.get? b = none) : H b = none := by
  cases q : H b with
  | none => rfl
  | some u =>
    obtain ⟨o, ho⟩ := ok_there (I.hok b u q)
    rw [e] at ho
    cases ho
theorem Inv.left (I : Inv X pins σ H s) (hex : X.ex = []) (hstk : X.stack = X.env :: X.outer ∧ X.env.frame = some X.env.locals) {xs : List Addr} {E : XK} {a : Addr} {cls a0 : Value} (hxs : ∀ b ∈ xs, H b = none) (hx0 : ∀ b ∈ xs, X.s₀.heap.get? b = none) (ha : a ∈ xs)
    (hE : E cls none H) (lf : Heap.LeftW (PySem.W.hideAll s.heap (xs ++ frs X.stack)) (X.env :: X.outer) a cls a0 s.heap h') : CXE X.prog X.w X.outer X.H₀ X.s₀ E (.ref a) { s with heap := h' } := by
  have st := left_stays I hstk.1 lf
  obtain ⟨oe, vs, T, oT, ts, e1, ⟨ec, e0⟩, ed, e2, nT, nTa, eT, edT, e3⟩ := lf.2.2.1
  have Tfr : T ∉ frs X.stack := fun m => by
    rw [hstk.1] at m
    obtain ⟨_, o', e', n⟩ := lf.2.1.mem m
    rw [eT] at e'
    cases e'
    exact n ts edT
  have TT : H T = none ∧ X.s₀.heap.get? T = none := by
    cases q : s.heap.get? T with
    | none => exact ⟨I.fresh_of q, I.new0 hex q⟩
    | some o =>
      by_cases m : T ∈ xs
      · exact ⟨hxs T m, hx0 T m⟩
      · have := PySem.W.hideAll_get (xs ++ frs X.stack) q fun z => (List.mem_append.mp z).elim m Tfr
        rw [nT] at this
        cases this
  exact ⟨a, T, cls, H, rfl, I.os, I.bare, I.stays_un hex st hx0 hstk, I.stays_hok st hxs, hxs a ha, TT.1, hx0 a ha, TT.2, ⟨oe, vs, a0, oT, ts, e1, ec, e0, ed, e2, nTa, eT, edT, e3⟩, hE⟩
theorem Inv.hid (I : Inv X pins σ H s) (hstk : X.stack = X.env :: X.outer) (xs : List Addr) : s.heap.FunFrames (PySem.W.hideAll s.heap (xs ++ frs X.stack)) (X.env :: X.outer) := by
  rw [← hstk]
  exact funs_of I.stack fun b hb => PySem.W.hideAll_none _ (List.mem_append_right _ hb)
/-- an exception that was just made leaves the frame -/
theorem leave_first {E : XK} {oe : Obj} {vs : Array Value} {a0 : Value} (I : Inv X pins σ H s) (hex : X.ex = []) (hstk : X.stack = X.env :: X.outer ∧ X.env.frame = some X.env.locals) (ha : s.heap.get? a = some oe) (hd : oe.data = .fields vs) (h1 : vs[1]? = some .none) (h0 : vs[0]? = some a0)
    (hn : H a = none) (n0 : X.s₀.heap.get? a = none) (hE : E oe.cls none H) :
    wpAny (model X.prog X.w) X.A (leaving X.env (.ref a)) (fun _ s'' => CXE X.prog X.w X.outer X.H₀ X.s₀ E (.ref a) s'') (fun e' s'' => CXE X.prog X.w X.outer X.H₀ X.s₀ E e' s'') s := by
  have one : ∀ b ∈ [a], b = a := fun b hb => List.mem_singleton.mp hb
  refine wpAny_leaving_firstW (base := PySem.W.hideAll s.heap ([a] ++ frs X.stack)) (by rw [I.ok.frames, hstk.1]) (I.hid hstk.1 [a]) hstk.2 ha (fun b o e => PySem.W.of_hideAll _ e) (PySem.W.hideAll_none _ (by simp)) hd h1 h0 fun h' lf => ?_
  exact I.left hex hstk (fun b hb => by rw [one b hb]; exact hn) (fun b hb => by rw [one b hb]; exact n0) (by simp) hE lf
/-- an exception passes the frame -/
theorem leave_next {E : XK} (I : Inv X pins σ H s) (hex : X.ex = []) (hstk : X.stack = X.env :: X.outer ∧ X.env.frame = some X.env.locals) (fl : Fly s.heap a T cls)
    (hn : H a = none) (hnT : H T = none) (n0 : X.s₀.heap.get? a = none) (nT : X.s₀.heap.get? T = none) (hE : E cls none H) :
    wpAny (model X.prog X.w) X.A (leaving X.env (.ref a)) (fun _ s'' => CXE X.prog X.w X.outer X.H₀ X.s₀ E (.ref a) s'') (fun e' s'' => CXE X.prog X.w X.outer X.H₀ X.s₀ E e' s'') s := by
  obtain ⟨oe, vs, a0, oT, ts, e1, ec, e0, ed, e2, nTa, eT, edT, e3⟩ := fl
  have two : ∀ b ∈ [a, T], b = a ∨ b = T := fun b hb => by simpa using hb
  refine wpAny_leaving_nextW (base := PySem.W.hideAll s.heap ([a, T] ++ frs X.stack)) (cls := cls) (a0 := a0) (by rw [I.ok.frames, hstk.1]) (I.hid hstk.1 [a, T]) hstk.2 ⟨oe, vs, T, oT, ts, e1, ⟨ec, e0⟩, ed, e2, PySem.W.hideAll_none _ (by simp), nTa, eT, edT, e3⟩ (fun b o e => PySem.W.of_hideAll _ e) (PySem.W.hideAll_none _ (by simp)) fun h' lf => ?_
  refine I.left hex hstk (fun b hb => ?_) (fun b hb => ?_) (by simp) hE lf
  · rcases two b hb with z | z <;> rw [z] <;> assumption
  · rcases two b hb with z | z <;> rw [z] <;> assumption
/-- behind a call that raised -/
theorem Inv.behind {E : XK} {e : Value} {s' : Shared} (I : Inv X pins σ H s) (c : CXE X.prog X.w X.stack H s E e s') :
    ∃ (a T : Addr) (cls : Value) (H' : Hp), e = .ref a ∧ Inv X pins σ H' s' ∧ H' a = none ∧ H' T = none ∧ s.heap.get? a = none ∧ s.heap.get? T = none ∧ Fly s'.heap a T cls ∧ E cls none H' := by
  obtain ⟨a, T, cls, H', ee, os, bare, un, hok, r⟩ := c
  obtain ⟨hh, g, d, t, os'⟩ := s'
  obtain rfl : os' = s.os := os
  exact ⟨a, T, cls, H', ee, I.call (h' := hh) (g' := g) (d' := d) (t' := t) (ch := []) un hok bare (fun b z => absurd z (by simp)), r⟩
/-- the facts of an own exception class -/
theorem exc_obj {K : PySem.W.Frag} {h : Heap} {C : Addr} {bmB : List Value} {newId : String} (X : K.In h) (q : PySem.W.excIn K C bmB newId = true) :
    ∃ bm N nm q bs hdct sn sub ab col dd k0 k1 k2 k3 k5 mN, h.get? C = some (excClassObj nm q C N bs bm hdct sn sub ab col dd k0 k1 k2 k3 k5 newId) ∧ h.Ns N mN ∧ mN "__init__" = none ∧ OwnTail h bmB bm := by
  unfold PySem.W.excIn at q
  split at q
  · rename_i dd cd sl ho
    split at q
    · rename_i C' bm k0 k1 k2 k3 n k5 hm hs
      simp only [Bool.and_eq_true, beq_iff_eq, Bool.not_eq_true'] at q
      obtain ⟨⟨⟨⟨⟨rfl, rfl⟩, hdel⟩, ht⟩, hok⟩, hni⟩ := q
      obtain ⟨nm, bs, mro, ns, qn, hd, sn, sub, ab, col, del⟩ := cd
      dsimp only at hm hdel hok hni
      subst hm hdel
      have hsl : sl = #[k0, k1, k2, k3, some (.builtin n), k5] := by
        obtain ⟨l⟩ := sl
        have hs : l = _ := hs
        rw [hs]
      subst hsl
      exact ⟨bm, ns, nm, qn, bs, hd, sn, sub, ab, col, dd, k0, k1, k2, k3, k5, _, X _ _ ho, .of_isNs (PySem.W.isNs_of_in X hok), PySem.W.nsMap_none_of_in X hok hni, PySem.W.tail_of_in X ht⟩
    · cases q
  · cases q
end
/-- raise C(e) -/
def tRaise (C : Addr) (E : XK) (ta : TE) : TS := fun _ σ H => ta σ H fun _ H1 => E (.ref C) none H1
theorem ps_raise {X : Cx} {E : XK} {C : Addr} {x : Str} {e₀ : Expr} {ta : TE} {np cpos pos : Pos} {bmB : List Value} {B newId initId : String} (hc : X.calm = true) (hex : X.ex = []) (hstk : X.stack = X.env :: X.outer ∧ X.env.frame = some X.env.locals)
    (hxe : ∀ e s', wpAny (model X.prog X.w) X.A (leaving X.env e) (fun _ s'' => CXE X.prog X.w X.outer X.H₀ X.s₀ E e s'') (fun e' s'' => CXE X.prog X.w X.outer X.H₀ X.s₀ E e' s'') s' → X.xe e s')
    (hg : Gl X x) (hm : X.mg x = some (.ref C)) (q : PySem.W.excIn X.K C bmB newId = true) (FB : ExcBaseFacts B newId initId bmB) (he₀ : PE X e₀ ta) (he : starEach [e₀] X.env = [(false, eval e₀ X.env)] := by rfl) (hdb : (x == ("__debug__" : Str)) = false := by decide) :
    PS X (.Raise (some (.Call (.Name x np) [e₀] [] cpos)) none pos) (tRaise C E ta) := by
  intro pins s σ H D I h
  obtain ⟨tl, N, nm, qn, bs, hdct, sn, sub, ab, col, dd, k0, k1, k2, k3, k5, mN, hC, hN, hni, TL⟩ := exc_obj I.mod.kin q
  refine wpAny_Raise_call_subT (C := C) (nm := nm) (q := qn) (N := N) (bs := bs) (bm := tl) (hdct := hdct) (sn := sn) (sub := sub) (ab := ab) (col := col) (dd := dd) (k0 := k0) (k1 := k1) (k2 := k2) (k3 := k3) (k5 := k5)
    FB (mN := mN) (TL.hasType FB.hasBase) (I.ok.hd hc) (by rw [he]; rfl) hni (ld_glob I hg hm ⟨rfl, ?_⟩ hdb)
  rw [he]
  show wpAny _ _ (evalArgs (.ref C) true ((false, eval e₀ X.env) :: backTo cpos (starEach [] X.env)) []) _ _ s
  refine Calls.evalArgs_plain (Calls.spliced_cons (thn (he₀ pins s σ H _ I h) fun u s2 ⟨v, H2, I2, rv, q2⟩ => Calls.spliced_nil ⟨rfl, show 1 ≤ sizeLine by decide, I2.bk _ _ hC, hN.keeps I2.bk, TL.keeps I2.bk, fun h' e mk => ?_⟩))
  have I3 : Inv X pins σ H2 { s2 with heap := h' } := I2.kept (t' := s2.toks) mk.keeps
  obtain ⟨t, ht, _, _⟩ := mk.there
  exact hxe _ _ (leave_first I3 hex hstk ht rfl rfl rfl (I2.fresh_of mk.new) (I2.new0 hex mk.new) q2)
/-- THE RULE for a def that raises -/
theorem Fun.okX {P : Program} {w : World} {K : PySem.W.Frag} {mg : Str → Option Value} {base : Heap} {x qual : Str} {st : Stmt} {f : Addr} {fd : FuncData} {N ps : List Str} {k : Nat} {sp : Sp} (F : Fun K x qual st f fd) (S : FnScope N ps (defScope st)) (len : ∀ vs H Q E, sp vs H Q E → vs.length = ps.length)
    (hbody : ∀ (cdv : Value) (A : Around) (outer : List Env) (s : Shared) (H : Hp) (vs : List V) (Q : VK) (E : XK), Room k (A.deeper (envOfC qual (defScope st) s.heap.objs.size f cdv)) → sp vs H Q E →
      ∃ t, PSs (cxOf (CXE P w) P w K mg base N qual (defScope st) f cdv A outer s H E) (defBody st) t ∧ t { nx := fun _ H' => Q .non H', rt := Q } (start N vs) H) : FnOk P w K mg base (CXE P w) (k + 1) f fd ps sp := by
  obtain ⟨oc, od, kV, doc, pm, an, cdv, ct, osl, rfl, lk, hcd⟩ := F.ex
  exact fn_of lk hcd S len fun A outer s H vs Q E hr hsp => hbody cdv A outer s H vs Q E hr hsp
end L2
namespace L2
open PySem PySem.Spec PyProof.Rows
/-- a def of the text that may raise -/
def HasX (P : Program) (w : World) (K : PySem.W.Frag) (mg : Str → Option Value) (base : Heap) (k : Nat) (x : Str) (ps : List Str) (sp : Sp) : Prop :=
  ∃ (f : Addr) (fd : FuncData), FnOk P w K mg base (CXE P w) k f fd ps sp ∧ mg x = some (.ref f) ∧ PySem.W.keepIn K (.ref f) = true ∧ Binds K fd ps []
section
variable {X : Cx} {pins : List (Addr × Obj)} {σ : St} {H : Hp} {s : Shared} {h' : Heap} {a T : Addr} {oe : Obj}
theorem run_callX {W : Value → Shared → Prop} {k : Nat} {x : Str} {ps : List Str} {sp : Sp} {p pos : Pos} {e : Expr} {es : List Expr} {t : TA} {Q : VK} {E : XK} (C : HasX X.prog X.w X.K X.mg X.base k x ps sp) (hr : Room k X.A) (hg : Gl X x) (ha : PA (X.wish W) (e :: es) t)
    (I : Inv X pins σ H s) (h : t σ H fun vs H1 => sp vs H1 Q E) (hx : ∀ H1 s1 e' s', Inv X pins σ H1 s1 → CXE X.prog X.w X.stack H1 s1 E e' s' → W e' s')
    (hdb : (x == ("__debug__" : Str)) = false := by decide) (he : starEach (e :: es) X.env = (false, eval e X.env) :: starEach es X.env := by rfl) (hpl : (backTo pos (starEach es X.env)).any (·.1) = false := by rfl) :
    wpAny (model X.prog X.w) X.A (eval (.Call (.Name x p) (e :: es) [] pos) X.env) (EP X pins σ Q) W s := by
  obtain ⟨f, fd, F, hm, hk, hb⟩ := C
  refine wpAny_Call_Name_kw (ld_glob (X := X.wish W) (I.wish W) hg hm ?_ hdb)
  refine PySem.W.callWith_K (h₀ := X.base) I.ok.mod.kin hk (thn (ha pos pins s σ H _ (I.wish W) h) fun us s1 ⟨vs, H1, I1, r, q⟩ => ⟨I1.kIn, ?_⟩) he hpl
  have I1 := I1.unwish
  have hl : us.length = ps.length := by rw [← r.length]; exact F.len _ _ _ _ q
  have bt := hb s1 us I1.kIn (by rw [List.append_nil]; exact hl)
  rw [List.append_nil] at bt
  refine wpAny_call (codeAny_mono (F.run X.A X.stack s1 H1 ⟨us, []⟩ us vs Q E hr I1.env0 bt r q) fun r s' hq => ?_)
  cases r with
  | error e => exact hx H1 s1 e s' I1 hq
  | ok fl =>
    cases fl with
    | ret u => exact I1.after hq
    | next => exact False.elim hq
    | brk => exact False.elim hq
    | cont => exact False.elim hq
theorem frs_stk (hstk : X.stack = X.env :: X.outer ∧ X.env.frame = some X.env.locals) : frs X.stack = X.env.locals :: X.fs := by
  rw [hstk.1]
  unfold frs
  rw [List.filterMap_cons, hstk.2]
  rfl
/-- over a heap in which only xs and the frames' slots are other -/
theorem Inv.stays {t' : Nat} {xs : List Addr} (I : Inv X pins σ H s) (hex : X.ex = []) (hcl : X.env.cells = []) (hstk : X.stack = X.env :: X.outer ∧ X.env.frame = some X.env.locals) (st : Stays X xs s.heap h') (hx : ∀ b ∈ xs, H b = none) (hx0 : ∀ b ∈ xs, X.s₀.heap.get? b = none)
    (hp : ∀ p ∈ X.pn ++ pins, p.1 ∉ xs) : Inv X pins σ H { s with heap := h', toks := t' } := by
  have fr := frs_stk hstk
  refine ⟨I.ok, I.os, I.bare, ?_, ?_, fun x c e => ?_, I.free, I.freeC, fun p hp' => ?_, I.stays_hok st hx, I.len⟩
  · have := I.stays_un hex st hx0 hstk
    rw [hex]
    exact this
  · obtain ⟨m, hn, hl⟩ := I.loc
    obtain ⟨o, es, ep, ho, hd, r⟩ := hn
    obtain ⟨sl, e1⟩ := st.slot _ o (by rw [fr]; exact List.mem_cons_self ..) ho
    refine ⟨m, ⟨_, es, ep, e1, hd, r⟩, fun i x v f1 f2 f3 => ?_⟩
    obtain ⟨u, ru, lk⟩ := hl i x v f1 f2 f3
    refine ⟨u, ru, ?_⟩
    rcases lk with z | ⟨z, c, ec, hc⟩
    · exact .inl z
    · rw [hcl] at ec; cases ec
  · rw [hcl] at e; cases e
  · obtain ⟨q1, q2, q3, q4, q5⟩ := I.pin p hp'
    refine ⟨st.keep p.1 p.2 (hp p hp') (fun m => ?_) q1, q2, q3, q4, q5⟩
    rw [fr] at m
    rcases List.mem_cons.mp m with z | z
    · exact q3 z
    · exact q4 z
/-- the context of an except suite: the exception is at a -/
def Cx.hnd (X : Cx) (a : Addr) (oe : Obj) : Cx := { X with A := X.A.mark (some (.ref a)), calm := false, xe := fun _ _ => False, pn := X.pn ++ [(a, oe)] }
theorem Inv.hnd (I : Inv X pins σ H s) (ha : s.heap.get? a = some oe) (hn : H a = none) (hL : a ≠ X.env.locals) (hf : a ∉ X.fs) (hc : ∀ v, oe.data ≠ .cell v) : Inv (X.hnd a oe) pins σ H s := by
  refine ⟨⟨I.ok.mod, I.ok.kind, I.ok.glob, I.ok.blt, I.ok.above, I.ok.inj, I.ok.has, I.ok.cab, (fun z => nomatch z), I.ok.frames, I.ok.stk, I.ok.exf, I.ok.bs, I.ok.bsz, I.ok.noex, I.ok.exfs, I.ok.funs, I.ok.frf⟩, I.os, I.bare, I.base, I.loc, I.cell, I.free, I.freeC, fun p hp => ?_, I.hok, I.len⟩
  have hp : p ∈ (X.pn ++ [(a, oe)]) ++ pins := hp
  rcases List.mem_append.mp hp with z | z
  · rcases List.mem_append.mp z with z | z
    · exact I.pin p (List.mem_append_left _ z)
    · rw [List.mem_singleton.mp z]
      exact ⟨ha, hn, hL, hf, hc⟩
  · exact I.pin p (List.mem_append_right _ z)
theorem Inv.unhnd (I : Inv (X.hnd a oe) pins σ H s) (ok : X.Ok) : Inv X pins σ H s :=
  ⟨ok, I.os, I.bare, I.base, I.loc, I.cell, I.free, I.freeC, fun p hp => I.pin p (show p ∈ (X.pn ++ [(a, oe)]) ++ pins from (List.mem_append.mp hp).elim (fun z => List.mem_append_left _ (List.mem_append_left _ z)) fun z => List.mem_append_right _ z), I.hok, I.len⟩
/-- the names' values are forgotten -/
theorem Inv.names {t' : Nat} {m' : Str → Option Value} (I : Inv X pins σ H s) (hn : h'.Ns X.env.locals m') (hs : Heap.SameBut X.env.locals s.heap h') : Inv X pins (List.replicate X.N.length none) H { s with heap := h', toks := t' } := by
  have lt0 : ∀ b o, X.s₀.heap.get? b = some o → b ≠ X.env.locals := fun b o e => Nat.ne_of_lt (Nat.lt_of_lt_of_le (Heap.lt_size e) I.ok.above)
  refine ⟨I.ok, I.os, I.bare, ⟨fun b o e n hb hx => ?_, fun b o e n hb hx => ?_, I.base.free, fun b o e hx => ?_, I.base.tups, I.base.frzs, I.base.tbls⟩, ⟨m', hn, fun j y v e1 e2 e3 => ?_⟩, fun y c e => ?_, I.free, I.freeC, fun p hp => ?_, fun b u e => ?_, List.length_replicate⟩
  · exact (hs.2 b (lt0 b o e)).trans (I.base.keep b o e n hb hx)
  · obtain ⟨sl, e1⟩ := I.base.slot b o e n hb hx
    exact ⟨sl, (hs.2 b (lt0 b o e)).trans e1⟩
  · obtain ⟨o', e1⟩ := I.base.there b o e hx
    exact ⟨o', (hs.2 b (lt0 b o e)).trans e1⟩
  · rw [List.getElem?_replicate] at e2
    split at e2 <;> cases e2
  · obtain ⟨v, o, ho, hd⟩ := I.cell y c e
    exact ⟨v, o, (hs.2 c (I.cne y c e)).trans ho, hd⟩
  · obtain ⟨q1, q2, q3, q4, q5⟩ := I.pin p hp
    exact ⟨(hs.2 _ q3).trans q1, q2, q3, q4, q5⟩
  · refine (I.hok b u e).stay (fun c w' hc q => (hs.2 c ?_).trans q) (fun _ q => q) fun _ _ q => q
    rintro rfl
    rcases hc with rfl | hc
    · rw [I.free] at e; cases e
    · rw [I.free] at hc; cases hc
end
end L2
namespace PySem.W
open PySem PySem.Spec PySem.Calls PyProof.Rows PySem.Builtin PySem.Builtin.ObjectAttr PySem.Builtin.Getset_descriptor
section
variable {prog : Program} {w : World} {A : Around} {E : Value → Shared → Prop} {s : Shared} {K : Frag} {x C : Addr} {R : Result → Shared → Prop}
theorem xc_get {tp : Value} (X : K.In s.heap) (T : ∀ M, Looks M s.heap (typeOf (.ref x)) (.ref C)) (hm : mroIn K C (.type "object") = some true) (h : R (.ok (.ret (.ref C))) s) :
    codeAny (model prog w) A (.call (.builtin "getset_descriptor.__get__") ⟨[.builtin "object.__class__", .ref x, tp], []⟩) R s := by
  obtain ⟨hh, g, dr, t, os⟩ := s
  have L0 := T (model prog w)
  have L1 := looks_mroIn (M := model prog w) X hm
  refine codeAny_call_builtin KF.slot_gs.plain KF.entry_gs (KF.slot_gs.check _ _ _ _ _ _ _ _ KF.type_class (KF.args_gs _ _ _) ?_)
  unfold Builtin.«getset_descriptor.__get__» descrGet
  rw [dga_obj]
  refine wpAny_bind (wpAny_pure ?_)
  unfold descrGetter descrCheckInstance descrNameAndClass isInstance
  simp only [KF.owner_class]
  repeat lk
  refine ⟨Code.quiet_builtin _ (by decide +kernel), codeAny_builtin KF.entry_class ?_⟩
  unfold Builtin.«object.__class__» shownTypeOf
  repeat lk
  exact h
theorem xc_find {M : Model} {h : Heap} (X : K.In h) (ha : findIn K (.ref C) "__class__" = some (some (.builtin "object.__class__"))) (hn : specialIn K (.builtin "object.__class__") "__get__" = some (some (.builtin "getset_descriptor.__get__")))
    (htk : takesIn K (.builtin "object.__class__") = some true) : Looks M h (find (.ref x) (.ref C) "__class__") (.bind (.builtin "getset_descriptor.__get__") (.builtin "object.__class__")) := by
  have L1 := looks_findIn (M := M) X ha
  have L2 : Looks M h (getOf (some (.builtin "object.__class__"))) (some (.builtin "getset_descriptor.__get__")) := looks_specialIn X hn
  have L3 := looks_takesIn (M := M) X htk
  refine L1.andThen (L2.andThen ?_)
  exact (show Looks M h (dataDescriptor? (some (.builtin "object.__class__")) (some (.builtin "getset_descriptor.__get__"))) (some (.builtin "getset_descriptor.__get__", .builtin "object.__class__")) from L3.andThen .now).andThen (Looks.tag .now)
/-- what of an exception's class must be seen -/
structure XcOk (K : Frag) (C : Addr) : Prop where
  cl : (clsIn K C).isSome = true
  ga : findIn K (.ref C) "__getattribute__" = some (some (.builtin "BaseException.__getattribute__"))
  noga : findIn K (.ref C) "__getattr__" = some none
  ca : findIn K (.ref C) "__class__" = some (some (.builtin "object.__class__"))
  get : specialIn K (.builtin "object.__class__") "__get__" = some (some (.builtin "getset_descriptor.__get__"))
  tk : takesIn K (.builtin "object.__class__") = some true
  mo : mroIn K C (.type "object") = some true
  mb : mroIn K C (.type "BaseException") = some true
theorem xc_entry {tk : Tok} {Q : Fin → Shared → Prop} (X : K.In s.heap) (T : ∀ M, Looks M s.heap (typeOf (.ref x)) (.ref C)) (O : XcOk K C) (h : Q (.done (.ret (.ref C))) s) : wpAny (model prog w) A (Builtin.«object.__getattribute__» ⟨[.ref x, .str "__class__" tk], []⟩) Q E s := by
  obtain ⟨hh, g, d, t, os⟩ := s
  have L0 := T (model prog w)
  have L1 : Looks (model prog w) hh (find (.ref x) (.ref C) "__class__") (.bind (.builtin "getset_descriptor.__get__") (.builtin "object.__class__")) := xc_find X O.ca O.get O.tk
  refine wpAny_bind (wpAny_pure (wpAny_bind (wpAny_pure (wpAny_bind (L0.at (wpAny_bind (L1.at ?_)))))))
  show wpAny _ _ (holding [.builtin "object.__class__"] (call (.builtin "getset_descriptor.__get__") [.builtin "object.__class__", .ref x, .ref C]) >>= ret) _ _ _
  exact wpAny_bind (wpAny_holding (wpAny_call (xc_get (s := ⟨hh, g, d, t, os⟩) X T O.mo (wpAny_pure h))))
theorem xc_call {tk : Tok} (X : K.In s.heap) (T : ∀ M, Looks M s.heap (typeOf (.ref x)) (.ref C)) (O : XcOk K C) (h : R (.ok (.ret (.ref C))) s) : codeAny (model prog w) A (.call (.builtin "BaseException.__getattribute__") ⟨[.ref x, .str "__class__" tk], []⟩) R s := by
  refine codeAny_call_builtin (by decide +kernel) F.entry_bexc_ga ?_
  have hk : builtinKind "BaseException.__getattribute__" = some .slot := by decide +kernel
  have hsp : splitId "BaseException.__getattribute__" = some ("BaseException", "__getattribute__") := by decide +kernel
  have ag := F.args_bexc_ga (.ref x) (.str "__class__" tk)
  have LI : Looks (model prog w) s.heap (isInstance (.ref x) (.type "BaseException")) true := (T _).andThen (looks_mroIn X O.mb)
  have fin := xc_entry (prog := prog) (w := w) (A := A.in1) (tk := tk) (Q := fun fin s' => match fin with | .done f => R (.ok f) s' | .again c' => c'.quiet = true ∧ codeAny (model prog w) A c' R s') (E := fun e s' => R (.error e) s') X T O h
  simp only [checkBuiltinCall, hk, hsp]
  obtain ⟨hh, g, d, t, os⟩ := s
  refine wpAny_bind (LI.at ?_)
  rw [if_neg (by decide)]
  cases hsig : Manifest.signature? "BaseException.__getattribute__" with
  | none => exact wpAny_pure fin
  | some sig =>
    have ag' : Bind.checkArgs "BaseException.__getattribute__" sig ⟨[.ref x, .str "__class__" tk], []⟩ = pure () := by simpa only [argsOk, hsig] using ag
    show wpAny _ _ (Bind.checkArgs _ sig _) _ _ _
    rw [ag']
    exact wpAny_pure fin
theorem xc_attr {Q : Option Value → Shared → Prop} (X : K.In s.heap) (T : ∀ M, Looks M s.heap (typeOf (.ref x)) (.ref C)) (O : XcOk K C) (h : Q (some (.ref C)) { s with toks := s.toks + 1 }) : wpAny (model prog w) A (getAttr? (.ref x) "__class__") Q E s := by
  obtain ⟨hh, g, d, t, os⟩ := s
  have L0 := T (model prog w)
  have L1 := looks_findIn (M := model prog w) X O.ga
  have L2 := looks_findIn (M := model prog w) X O.noga
  have ne : (onTheHeap (Value.ref C) && Value.builtin "BaseException.__getattribute__" == Value.builtin "object.__getattribute__") = false := by
    rw [show (Value.builtin "BaseException.__getattribute__" == Value.builtin "object.__getattribute__") = false by decide +kernel, Bool.and_false]
  unfold getAttr? getAttrBy? getAttrBy
  refine wpAny_bind (wpAny_mkText (wpAny_bind (wpAny_attempt (wpAny_holding (wpAny_bind (L0.at (wpAny_bind (L1.at ?_))))))))
  show wpAny _ _ (if (onTheHeap (Value.ref C) && Value.builtin "BaseException.__getattribute__" == Value.builtin "object.__getattribute__") = true then _ else _) _ _ _
  rw [if_neg (by rw [ne]; exact Bool.false_ne_true)]
  unfold getAttrByItsOwn
  refine wpAny_bind (L2.at ?_)
  refine wpAny_bind (wpAny_attempt (wpAny_holding ?_))
  show wpAny _ _ (bindSpecial (.builtin "BaseException.__getattribute__") (.ref x) >>= fun gf => call gf.1 (gf.2 ++ [.str "__class__" t])) _ _ _
  rw [F.excAttr_ValueError.ga.bind (.ref x), pure_bind]
  refine wpAny_call (xc_call (s := ⟨hh, g, d, t + 1, os⟩) X T O ?_)
  exact handed_on rfl (wpAny_pure h)
/-- isinstance answers by the class -/
theorem kitx_exc {oe : Obj} (hc : oe.cls = .ref C) (O : XcOk K C) : KitX K (.ref x) (.ref C) (fun h => h.get? x = some oe) where
  ty := fun M h _ p => hc ▸ (Looks.ld p).andThen .now
  it := fun M h X _ => by
    obtain ⟨cd, hcD⟩ := Option.isSome_iff_exists.mp O.cl
    unfold clsIn at hcD
    split at hcD
    · rename_i c' d' cd' sl' ho
      intro A' Q' E' s' k q
      unfold isType loadHead
      exact wpAny_bind (wpAny_loadPart (k _ _ (X _ _ ho)) (wpAny_pure q))
    · cases hcD
  ne := fun h tp dd its n sl X htp => by
    obtain ⟨cd, hcD⟩ := Option.isSome_iff_exists.mp O.cl
    refine Bool.eq_false_iff.mpr fun q => ?_
    have e : C = tp := Value.ref.inj (beq_iff_eq.mp q)
    subst e
    unfold clsIn at hcD
    split at hcD
    · rename_i c' d' cd' sl' ho
      have z := (X _ _ ho).symm.trans htp
      cases z
    · cases hcD
  ca := fun X p k => xc_attr X (fun M => hc ▸ (Looks.ld p).andThen .now) O k
end
end PySem.W
namespace L2
open PySem PySem.Spec PyProof.Rows
def clsV : V → Option Value
  | .ref C => some (.ref C)
  | .ty n => some (.type n)
  | _ => none
theorem clsV_rel {v : V} {c u : Value} (h : clsV v = some c) (r : RelV v u) : u = c := by
  cases v with
  | ref C => cases h; exact r
  | ty n => cases h; exact r
  | _ => cases h
/-- isinstance(e, C), isinstance(e, (C, ..)), e the exception that is caught -/
def rIsX (K : PySem.W.Frag) (a : Addr) (cls : Value) : List V → Hp → VK → Prop := fun xs H Q => ∃ C c, cls = .ref C ∧ PySem.W.XcOk K C ∧ xs = [.ref a, c] ∧ ((∃ u b, clsV c = some u ∧ PySem.W.kitOne K cls u = some b ∧ Q (.bl b) H) ∨
  ∃ tp cs us b, c = .ref tp ∧ H tp = some (.tup cs) ∧ cs.map clsV = us.map some ∧ PySem.W.kitAny K cls us = some b ∧ Q (.bl b) H)
theorem call_isX {X : Cx} {a : Addr} {oe : Obj} {cls : Value} (hcl : oe.cls = cls) : CallR (X.hnd a oe) (.builtin "isinstance") (rIsX X.K a cls) := by
  intro pins s σ H xs us Q I r h
  obtain ⟨C, c, hC, O, rfl, h⟩ := h
  have hc : oe.cls = .ref C := hcl.trans hC
  cases r with
  | cons ra r =>
    cases r with
    | cons rc r =>
      cases r
      cases ra
      have pin := (I.pin (a, oe) (List.mem_append_left _ (List.mem_append_right _ (List.mem_singleton.mpr rfl)))).1
      rw [hC] at h
      rcases h with ⟨u, b, hu, hk, q⟩ | ⟨tp, cs, us, b, rfl, ht, hm, hk, q⟩
      · rw [clsV_rel hu rc]
        exact PySem.W.kia_one (PySem.W.kitx_exc hc O) I.kIn pin hk (fun z => nomatch z) fun tk => ⟨.bl b, H, I.tok _, rfl, q⟩
      · cases rc
        obtain ⟨z, its, rv, o, h1, h2, n, h3⟩ := (show ObjOk X.prog X.w H s.heap tp (.tup cs) from I.hok tp _ ht)
        have ei : its = us := by
          have gen : ∀ {cs : List V} {its us : List Value}, Vals cs its → cs.map clsV = us.map some → its = us := by
            intro cs its us r
            induction r generalizing us with
            | nil => intro e; cases us with | nil => rfl | cons _ _ => cases e
            | cons r t ih =>
              intro e
              cases us with
              | nil => cases e
              | cons u us =>
                rw [List.map_cons, List.map_cons] at e
                rw [clsV_rel (List.cons.inj e).1 r, ih (List.cons.inj e).2]
          exact gen rv hm
        subst ei
        obtain ⟨c', d', dt', sl'⟩ := o
        replace h2 : c' = .type "tuple" := h2
        replace h3 : dt' = .seq its.toArray n := h3
        subst h2 h3
        exact PySem.W.kia_tup (PySem.W.kitx_exc hc O) I.kIn pin h1 hk (fun z => nomatch z) fun tk => ⟨.bl b, H, I.tok _, rfl, q⟩
end L2
namespace L2
open PySem PySem.Spec PyProof.Rows
theorem key_is {P : Program} {w : World} {k : Key} {u : Value} (r : RelV (kV k) u) : (mixKind P w).is k u = true := by
  cases k with
  | inl i => obtain ⟨t, e⟩ := (show ∃ t, u = Value.int i t from r); subst e; exact mixKind_int P w i t
  | inr x => obtain ⟨t, e⟩ := (show ∃ t, u = Value.str x t from r); subst e; exact mixKind_str P w x t
end L2
namespace L2
open PySem PySem.Spec PyProof.Rows
def atK (kvs : List (Key × V)) (k : Key) : Option V := (kvs.find? fun q => decide (q.1 = k)).map (·.2)
theorem atK_val : ∀ {kvs : List (Key × V)} {vs : List (Key × Value)}, KV kvs vs → ∀ k, match atK kvs k with | none => valueAt vs k = none | some v => ∃ u, valueAt vs k = some u ∧ RelV v u
  | _, _, .nil, _ => rfl
  | _, _, .cons (a := p) (b := q) r t, k => by
    obtain ⟨h1, h3⟩ := r
    have ih := atK_val t k
    by_cases e : p.1 = k
    · have e1 : ∀ kvs, atK (p :: kvs) k = some p.2 := fun kvs => by unfold atK; rw [List.find?_cons_of_pos (by simpa using e)]; rfl
      rw [e1]
      refine ⟨q.2, ?_, h3⟩
      unfold valueAt
      rw [List.find?_cons_of_pos (by simpa [← h1] using e)]
      rfl
    · have e1 : ∀ kvs, atK (p :: kvs) k = atK kvs k := fun kvs => by unfold atK; rw [List.find?_cons_of_neg (by simpa using e)]
      have e2 : ∀ vs, valueAt (q :: vs) k = valueAt vs k := fun vs => by unfold valueAt; rw [List.find?_cons_of_neg (by simpa [← h1] using e)]
      rw [e1, e2]
      exact ih
def tKGet (td ty : TE) : TE := fun σ H Q => td σ H fun x H1 => ty σ H1 fun y H2 => ∃ a k kvs v, x = .ref a ∧ y = kV k ∧ H2 a = some (.dK kvs) ∧ atK kvs k = some v ∧ Q v H2
section
variable {X : Cx} {o i : Expr} {td ty : TE} {pos : Pos}
theorem pe_kget (ho : PE X o td) (hi : PE X i ty) (hs : ∀ ov iv, subscripted i false ov iv = operate [ov, iv] (getItem ov iv)) : PE X (.Subscript o i pos) (tKGet td ty) := by
  intro pins s σ H Q I h
  refine Subscript_ (thn (ho pins s σ H _ I h) fun u s1 ⟨x, H1, I1, rx, q1⟩ => thn (hi pins s1 σ H1 _ I1 q1) fun iv s2 ⟨y, H2, I2, ry, a, k, kvs, v, ex, ey, e, ev, q2⟩ => ?_)
  subst ex; subst ey
  obtain rfl : u = Value.ref a := rx
  obtain ⟨z, hd, vs, r, dd⟩ := (show ObjOk X.prog X.w H2 s2.heap a (.dK kvs) from I2.hok a _ e)
  have hT := dd.typeIs
  have val := atK_val r k
  rw [ev] at val
  obtain ⟨w', ea, rv⟩ := val
  unfold subscriptTail
  refine wpAny_bind ?_
  rw [getitemInPython_of_ne hT.not_modules]
  refine wpAny_bind (wpAny_specialOf hT PySem.F.slot_dict_getitem.lookup ?_)
  have fin : wpAny (model X.prog X.w) X.A (subscripted i false (.ref a) iv) (fun r s₃ => wpAny (model X.prog X.w) X.A (letTemporaryGo o (.ref a) r >>= fun _ => pure r) (EP X pins σ Q) X.xe s₃) X.xe s2 := by
    rw [hs]
    exact wpAny_operating (wpAny_getItem_of (key_is ry) dd.mapOf ea (wpAny_bind (wpAny_letTemporaryGo (wpAny_pure ⟨v, H2, I2.tok _, rv, q2⟩))))
  first
    | exact wpAny_pure (wpAny_bind fin)
    | exact wpAny_bind (wpAny_pure (wpAny_bind fin))
    | exact wpAny_bind fin
end
theorem stored_all {K : Type} [DecidableEq K] : ∀ {ks acc : List (K × Value)}, ((acc ++ ks).map (·.1)).Nodup → ks.foldl (fun kvs q => stored kvs q.1 q.2) acc = acc ++ ks
  | [], acc, _ => by simp
  | q :: ks, acc, h => by
    have e : stored acc q.1 q.2 = acc ++ [q] := by
      unfold stored
      rw [if_neg]
      intro z
      obtain ⟨p, hp, e⟩ := List.any_eq_true.mp z
      have e := of_decide_eq_true e
      rw [List.map_append, List.nodup_append] at h
      exact h.2.2 _ (List.mem_map.mpr ⟨p, hp, rfl⟩) _ (List.mem_map.mpr ⟨q, List.mem_cons_self .., rfl⟩) e
    rw [List.foldl_cons, e, stored_all (by rw [List.append_assoc]; exact h), List.append_assoc]
    rfl
end L2
namespace L2
open PySem PySem.Spec PyProof.Rows
section
variable {X : Cx} {e : Expr} {es : List Expr} {te : TE} {pos : Pos}
/-- the text of an int -/
def iS (i : Int) : Str := Str.ofString (toString i)
theorem iS_len {i : Int} (h0 : 0 ≤ i) {k : Nat} (hk : 0 < k) (h : i < 10 ^ k) : (iS i).length ≤ k := toString_length_le h0 hk h
/-- {e}, an int -/
def tFInt (te : TE) : TE := fun σ H Q => te σ H fun x H1 => ∃ i : Int, x = .int i ∧ i.natAbs.log2 < 1920 ∧ Q (.str (iS i)) H1
theorem pe_fint (he : PE X e te) : PE X (.FormattedValue e (-1) none pos) (tFInt te) := by
  intro pins s σ H Q I h
  refine wpAny_FormattedValue_plain (thn (he pins s σ H _ I h) fun v s1 ⟨x, H1, I1, r1, q1⟩ => ?_)
  obtain ⟨i, rfl, hi, q⟩ := q1
  obtain ⟨t, rfl⟩ := r1
  exact wpAny_formatField_int hi ⟨.str (iS i), H1, I1.tok _, ⟨_, rfl⟩, q⟩
/-- {e!r}, a text -/
def tFRep (te : TE) : TE := fun σ H Q => te σ H fun x H1 => ∃ y : Str, x = .str y ∧ (reprText y).length ≤ sizeLine ∧ Q (.str (reprText y)) H1
theorem pe_frep (he : PE X e te) : PE X (.FormattedValue e 114 none pos) (tFRep te) := by
  intro pins s σ H Q I h
  refine wpAny_FormattedValue_repr (thn (he pins s σ H _ I h) fun v s1 ⟨x, H1, I1, r1, q1⟩ => ?_)
  obtain ⟨y, rfl, hy, q⟩ := q1
  obtain ⟨t, rfl⟩ := r1
  refine pyReprObj_str (wpAny_formatField_str ⟨.str _, H1, I1.tok _, ⟨_, rfl⟩, q⟩ ⟨.str _, H1, (I1.tok _).tok _, ⟨_, rfl⟩, q⟩ hy) hy
/-- the parts of an f-string, from the left -/
abbrev TJ := St → Hp → Str → (Str → Hp → Prop) → Prop
def PJ (X : Cx) (es : List Expr) (t : TJ) : Prop := ∀ (pins : List (Addr × Obj)) (s : Shared) (σ : St) (H : Hp) (acc : Str) (Q : Str → Hp → Prop), Inv X pins σ H s → t σ H acc Q →
  Joins (model X.prog X.w) X.A X.xe (evalEach es X.env) acc (fun out s1 => ∃ H1, Inv X pins σ H1 s1 ∧ Q out H1) s
def tJNil : TJ := fun _ H acc Q => Q acc H
def tJCons (te : TE) (tj : TJ) : TJ := fun σ H acc Q => te σ H fun x H1 => ∃ y : Str, x = .str y ∧ (acc ++ y).length ≤ sizeLine ∧ tj σ H1 (acc ++ y) Q
theorem pj_nil : PJ X [] tJNil := fun _ _ _ H _ _ I h => ⟨H, I, h⟩
theorem pj_cons {tj : TJ} (he : PE X e te) (hs : PJ X es tj) (hev : evalEach (e :: es) X.env = eval e X.env :: evalEach es X.env := by rfl) : PJ X (e :: es) (tJCons te tj) := by
  intro pins s σ H acc Q I h
  rw [hev]
  refine thn (he pins s σ H _ I h) fun v s1 ⟨x, H1, I1, r1, q1⟩ => ?_
  obtain ⟨y, rfl, hy, q⟩ := q1
  obtain ⟨t, rfl⟩ := r1
  exact ⟨y, t, rfl, hy, hs pins s1 σ H1 (acc ++ y) Q I1 q⟩
def tJoin (tj : TJ) : TE := fun σ H Q => tj σ H Str.empty fun out H1 => out.length ≤ sizeLine ∧ Q (.str out) H1
theorem joins_mono {M : Model} {A : Around} {E : Value → Shared → Prop} {Q Q' : Str → Shared → Prop} (h : ∀ o s, Q o s → Q' o s) : ∀ (parts : List (Sem Value)) (acc : Str) (s : Shared), Joins M A E parts acc Q s → Joins M A E parts acc Q' s
  | [], _, _, j => h _ _ j
  | _ :: rest, _, _, j => wpAny_mono j (fun _ _ ⟨y, t, e, l, k⟩ => ⟨y, t, e, l, joins_mono h rest _ _ k⟩) fun _ _ e => e
theorem pe_joined {e1 e2 : Expr} {rest : List Expr} {tj : TJ} (h : PJ X (e1 :: e2 :: rest) tj) : PE X (.JoinedStr (e1 :: e2 :: rest) pos) (tJoin tj) := by
  intro pins s σ H Q I hw
  refine wpAny_JoinedStr (joins_mono (fun o s1 ⟨H1, I1, l, q⟩ => ⟨l, .str o, H1, I1.tok _, ⟨_, rfl⟩, q⟩) _ _ _ (h pins s σ H Str.empty _ I hw))
end
end L2
namespace L2
open PySem PySem.Spec PyProof.Rows
section
variable {X : Cx}
theorem call_strI : CallR X (.type "str") (fun xs H Q => ∃ i : Int, xs = [.int i] ∧ (0 ≤ i ∧ i < 1000000000000) ∧ Q (.str (iS i)) H) := by
  intro pins s σ H xs us Q I r h
  obtain ⟨i, rfl, hi, q⟩ := h
  obtain ⟨u, rfl, t, rfl⟩ := vals1 r
  exact str_of_int_fit (N := 1000000000000) (by rw [if_neg (by omega)]; exact hi.2) (by decide) fun _ => ⟨.str (iS i), H, I.tok _, ⟨_, rfl⟩, q⟩
theorem vals_strs : ∀ {ts : List Str} {us : List Value}, Vals (ts.map V.str) us → ∃ l : List (Str × Tok), us = strValues l ∧ l.map (·.1) = ts
  | [], _, .nil => ⟨[], rfl, rfl⟩
  | t :: ts, _, .cons r h => by
    obtain ⟨k, rfl⟩ := r
    obtain ⟨l, rfl, e⟩ := vals_strs h
    exact ⟨(t, k) :: l, rfl, by rw [List.map_cons, e]⟩
def rJoin (K : PySem.W.Frag) : V → List V → Hp → VK → Prop := fun x vs H Q => ∃ (sep : Str) (p : Addr) (ts : List Str), x = .str sep ∧ vs = [.ref p] ∧ SqL K H p (ts.map V.str) ∧ JoinOk sep ts = true ∧ Q (.str (Str.join sep ts)) H
theorem mt_join : MtR X "str.join" (rJoin X.K) := by
  intro pins s σ H x vs v us Q I rx rv h
  obtain ⟨sep, p, ts, rfl, rfl, hq, ok, q⟩ := h
  obtain ⟨t, rfl⟩ := rx
  obtain ⟨u, rfl, ru⟩ := rv.one
  cases ru
  obtain ⟨its, r, pl, hz⟩ := I.list hq
  obtain ⟨l, rfl, e⟩ := vals_strs r
  refine SC.join pl.isList e ok fun t' k => ⟨.str _, H, I.tok _, ⟨_, rfl⟩, ?_⟩
  show Q (.str (Builtin.Str.glued sep ts)) H
  rw [StrLaws.glued_eq_join]
  exact q
theorem join_ok {sep : Str} {ts : List Str} {B : Nat} (hB : ∀ y ∈ ts, y.length ≤ B) (h : ts.length * B + ts.length * sep.length ≤ 16777216) : JoinOk sep ts = true := by
  unfold JoinOk
  rw [StrLaws.joinFits hB h]
  rfl
def rStarts : V → List V → Hp → VK → Prop := fun x vs H Q => ∃ a b : Str, x = .str a ∧ vs = [.str b] ∧ Q (.bl (Txt.startswith a b)) H
theorem mt_starts : MtR X "str.startswith" rStarts := by
  intro pins s σ H x vs v us Q I rx rv h
  obtain ⟨a, b, rfl, rfl, q⟩ := h
  obtain ⟨t, rfl⟩ := rx
  obtain ⟨u, rfl, k, rfl⟩ := rv.one
  exact SC.startswith ⟨.bl _, H, I, rfl, q⟩
/-- l.index(x), a text that is in the list -/
def rIndex (K : PySem.W.Frag) : V → List V → Hp → VK → Prop := fun x vs H Q => ∃ (l : Addr) (ts : List Str) (y : Str) (j : Nat), x = .ref l ∧ vs = [.str y] ∧ SqL K H l (ts.map V.str) ∧ ts[j]? = some y ∧ (∀ m, m < j → ts[m]? ≠ some y) ∧ Q (.int j) H
theorem mt_index (hu : X.A.units + 64 < cLine) : MtM X "list.index" (rIndex X.K) := by
  intro pins s σ H x vs v us Q I rx rv h
  obtain ⟨l, ts, y, j, rfl, rfl, hq, hj, hno, q⟩ := h
  cases rx
  obtain ⟨u, rfl, t, rfl⟩ := rv.one
  obtain ⟨its, r, ⟨⟨cls, dd, data, sl⟩, n, ho, hc, hs, hd⟩, hz⟩ := I.list hq
  obtain ⟨ps, rfl, e⟩ := vals_strs r
  simp only at hc hd
  subst hc hd
  have hjl : j < ts.length := (List.getElem?_eq_some_iff.mp hj).1
  have ejy : ts[j] = y := (List.getElem?_eq_some_iff.mp hj).2
  have lps : ps.length = ts.length := by rw [← e, List.length_map]
  have lsv : (strValues ps).toArray.size = ps.length := by rw [List.size_toArray]; exact List.length_map _
  have lts : ts.length ≤ sizeLine := by rw [List.length_map] at hz; exact hz
  have szl : sizeLine = 16777216 := by decide
  let eB : Value → Bool := fun v => match v with | .str z _ => decide (z = y) | _ => false
  have at_ : ∀ m (hm : m < (strValues ps).toArray.size) (hm2 : m < ts.length), ∃ k, (strValues ps).toArray[m] = Value.str ts[m] k := fun m hm hm2 => by
    have h1 : m < ps.length := by omega
    refine ⟨ps[m].2, ?_⟩
    have : ts[m] = ps[m].1 := by subst e; simp
    rw [this]
    simp [strValues]
  refine call_meets F.slot_list_index ⟨_, ho, rfl⟩ F.entry_list_index (F.args_list_index_2 _ _) (SeqAt.list_indexAt l _ n dd sl (.str y t) eB j (by omega) (by omega) ?_ (fun m hm hmj => ?_)) ⟨ho, fun z hz => ?_, ⟨.int j, H, I.tok _, ⟨_, rfl⟩, q⟩⟩
  · obtain ⟨k, ek⟩ := at_ j (by omega) hjl
    rw [ek, ejy]
    exact decide_eq_true rfl
  · obtain ⟨k, ek⟩ := at_ m hm (by omega)
    rw [ek]
    refine decide_eq_false fun z => hno m hmj ?_
    rw [List.getElem?_eq_getElem (by omega), z]
  · obtain ⟨m, hm, em⟩ := Array.getElem_of_mem hz
    obtain ⟨k, ek⟩ := at_ m hm (by omega)
    rw [← em, ek]
    exact (eqok_str (K := X.K)).eq (X := X) rfl I (x := .str ts[m]) (y := .str y) ⟨k, rfl⟩ ⟨t, rfl⟩ rfl rfl (by show X.A.units + 1 + 0 < cLine; omega)
end
end L2
namespace L2
open PySem PySem.Spec PyProof.Rows
section
variable {X : Cx}
def tDict2 (k1 k2 v1 v2 : Str) : TE := fun _ H Q => k1 ≠ k2 ∧ ∀ p, H p = none → Q (.ref p) (upd H p (.dK [(.inr k1, .str v1), (.inr k2, .str v2)]))
theorem pe_dictS2 {k1 k2 v1 v2 : Str} {a1 a2 a3 a4 : Nat} {p1 p2 p3 p4 pos : Pos} :
    PE X (.Dict [some (.Constant (.str k1) a1 p1), some (.Constant (.str k2) a2 p2)] [.Constant (.str v1) a3 p3, .Constant (.str v2) a4 p4] pos) (tDict2 k1 k2 v1 v2) := by
  intro pins s σ H Q I h
  obtain ⟨hk, h⟩ := h
  have hn := I.hok.fresh (Nat.le_refl s.heap.objs.size)
  have big : sysModules < s.heap.objs.size := Nat.lt_trans (by decide) (show mainGlobals < s.heap.objs.size from (I.mod.glob.keeps I.bk).lt)
  refine wpAny_Dict_walk (knd := mixKind X.prog X.w) rfl rfl (by simp) (show 2 ≤ 15 by decide) (pairTrees_cons_walk (Calls.Constant_str (Calls.Constant_str (pairTrees_cons_walk (Calls.Constant_str (Calls.Constant_str (pairTrees_nil_walk ?_)))))))
  refine ⟨[(.inr k1, .str v1 _), (.inr k2, .str v2 _)], ⟨key_is (k := .inr k1) ⟨_, rfl⟩, rfl, key_is (k := .inr k2) ⟨_, rfl⟩, rfl, trivial⟩, Heap.DictOf.new s.heap, fun h' dd hs => ?_⟩
  have ne : (Sum.inr k1 : Key) ≠ Sum.inr k2 := fun e => hk (Sum.inr.inj e)
  have em : ∀ (a b : Value), merged ([] : List (Key × Value)) [(.inr k1, a), (.inr k2, b)] = [(.inr k1, a), (.inr k2, b)] := fun a b => by
    have := stored_all (K := Key) (ks := [(.inr k1, a), (.inr k2, b)]) (acc := []) (by simp [ne, hk])
    exact this
  rw [em] at dd
  refine ⟨.ref s.heap.objs.size, _, I.laid (o := .dK [(.inr k1, .str v1), (.inr k2, .str v2)]) (fun b ob q => ?_) (Nat.le_refl _) ⟨by show 2 ≤ sizeLine; decide, beq_eq_false_iff_ne.mpr (Ne.symm (Nat.ne_of_lt big)), _, .cons ⟨rfl, _, rfl⟩ (.cons ⟨rfl, _, rfl⟩ .nil), dd⟩, rfl, h _ hn⟩
  exact (hs.2 b (Nat.ne_of_lt (Heap.lt_size q))).trans (Heap.get?_push_of_some _ q)
variable {tg : Expr}
end
theorem str_list {x y : Str} (h : x.cps.toList = y.cps.toList) : x = y := Str.ext' (Array.toList_inj.mp h)
theorem app_list (x y : Str) : (x ++ y).cps.toList = x.cps.toList ++ y.cps.toList := by
  show (x.cps ++ y.cps).toList = _
  simp
end L2
namespace L2
open PySem PySem.Spec PyProof.Rows
/-- the best one is not after any other -/
theorem best_le {α : Type} {lt : α → α → Bool} (ir : ∀ a, lt a a = false) (tr : ∀ a b c, lt a b = true → lt b c = true → lt a c = true) (f : Nat → α) : ∀ (k j : Nat), j ≤ k → lt (f j) (f (argBest (fun i j => lt (f i) (f j)) k)) = false
  | 0, j, h => by
    have : j = 0 := by omega
    subst this
    exact ir _
  | k + 1, j, h => by
    have ih := best_le ir tr f k
    have e : argBest (fun i j => lt (f i) (f j)) (k + 1) = if lt (f (k + 1)) (f (argBest (fun i j => lt (f i) (f j)) k)) then k + 1 else argBest (fun i j => lt (f i) (f j)) k := rfl
    rw [e]
    cases hb : lt (f (k + 1)) (f (argBest (fun i j => lt (f i) (f j)) k)) with
    | true =>
      rw [if_pos rfl]
      by_cases hj : j = k + 1
      · rw [hj]; exact ir _
      · cases hq : lt (f j) (f (k + 1)) with
        | false => rfl
        | true =>
          have := tr _ _ _ hq hb
          rw [ih j (by omega)] at this
          cases this
    | false =>
      rw [if_neg Bool.false_ne_true]
      by_cases hj : j = k + 1
      · rw [hj]; exact hb
      · exact ih j (by omega)
theorem best_lt (bt : Nat → Nat → Bool) : ∀ k, argBest bt k ≤ k
  | 0 => Nat.le_refl _
  | k + 1 => by
    show (if bt (k + 1) (argBest bt k) then k + 1 else argBest bt k) ≤ k + 1
    have := best_lt bt k
    split <;> omega
end L2
namespace L2
open PySem PySem.Spec PyProof.Rows
/-- what a call that raised leaves behind is what the context wants of an exception -/
def GoesOn (X : Cx) (E : XK) : Prop := ∀ pins σ H1 s1 e s', Inv X pins σ H1 s1 → CXE X.prog X.w X.stack H1 s1 E e s' → X.xe e s'
/-- f(..), f may raise, and what it raises goes on -/
def tCallP (E : XK) (sp : Sp) (t : TA) : TE := fun σ H Q => t σ H fun vs H1 => sp vs H1 Q E
theorem pe_callP {X : Cx} {E : XK} {k : Nat} {x : Str} {ps : List Str} {sp : Sp} {p pos : Pos} {e : Expr} {es : List Expr} {t : TA} (C : HasX X.prog X.w X.K X.mg X.base k x ps sp) (hr : Room k X.A) (hg : Gl X x) (ha : PA X (e :: es) t) (hp : GoesOn X E)
    (hdb : (x == ("__debug__" : Str)) = false := by decide) (he : starEach (e :: es) X.env = (false, eval e X.env) :: starEach es X.env := by rfl) (hpl : (backTo pos (starEach es X.env)).any (·.1) = false := by rfl) : PE X (.Call (.Name x p) (e :: es) [] pos) (tCallP E sp t) :=
  fun pins s σ H Q I h => run_callX (W := X.xe) C hr hg ha I h (fun H1 s1 e' s' I1 cx => hp pins σ H1 s1 e' s' I1 cx) hdb he hpl
/-- what is wanted of an exception that leaves a def -/
abbrev LeavesBy (X : Cx) (E : XK) : Prop :=
  ∀ e s', wpAny (model X.prog X.w) X.A (leaving X.env e) (fun _ s'' => CXE X.prog X.w X.outer X.H₀ X.s₀ E e s'') (fun e' s'' => CXE X.prog X.w X.outer X.H₀ X.s₀ E e' s'') s' → X.xe e s'
theorem goes_fn {X : Cx} {E : XK} (hex : X.ex = []) (hstk : X.stack = X.env :: X.outer ∧ X.env.frame = some X.env.locals) (hxe : LeavesBy X E) : GoesOn X E := by
  intro pins σ H1 s1 e s' I1 cx
  obtain ⟨a, T, cls, H', ee, I2, ha0, hT0, na, nT, fl, hE⟩ := I1.behind cx
  subst ee
  exact hxe _ _ (leave_next I2 hex hstk fl ha0 hT0 (I1.new0 hex na) (I1.new0 hex nT) hE)

/-- try: y = f(..) except C as n: .. -/
def tTrySet (K : PySem.W.Frag) (sp : Sp) (ta : TA) (j i len : Nat) (CT : Value) (ts : Addr → Value → TS) : TS := fun D σ H => ta σ H fun vs H1 => sp vs H1 (fun v H2 => D.nx (σ.set j (some v)) H2) fun cls _ H2 =>
  PySem.W.exmOne K cls CT = some true ∧ ∀ a, H2 a = none → ts a cls { nx := fun _ H3 => D.nx (List.replicate len none) H3, rt := D.rt, bk := fun _ H3 => D.bk (List.replicate len none) H3, ct := fun _ H3 => D.ct (List.replicate len none) H3 } (σ.set i (some (.ref a))) H2
theorem ps_trySet {X : Cx} {k j i : Nat} {x y c n : Str} {ps : List Str} {sp : Sp} {p py np cpos xpos hpos tpos : Pos} {e : Expr} {es : List Expr} {ta : TA} {C : Addr} {b₀ : Stmt} {suite : List Stmt} {ts : Addr → Value → TS} (hc : X.calm = true) (hex : X.ex = []) (hcl : X.env.cells = [])
    (hstk : X.stack = X.env :: X.outer ∧ X.env.frame = some X.env.locals) (Cf : HasX X.prog X.w X.K X.mg X.base k x ps sp) (hr : Room k X.A) (hg : Gl X x) (ha : ∀ W, PA (X.wish W) (e :: es) ta) (hgc : Gl X c) (hmc : X.mg c = some (.ref C)) (hN : X.N.Nodup) (hj : X.N[j]? = some y) (hy : X.env.scope.names.lookup y = some .local) (hi : X.N[i]? = some n) (hn : X.env.scope.names.lookup n = some .local)
    (hs : ∀ a oe cls, oe.cls = cls → PSs (X.hnd a oe) (b₀ :: suite) (ts a cls)) (hdb : (x == ("__debug__" : Str)) = false := by decide) (hdc : (c == ("__debug__" : Str)) = false := by decide) (he : starEach (e :: es) X.env = (false, eval e X.env) :: starEach es X.env := by rfl) (hpl : (backTo cpos (starEach es X.env)).any (·.1) = false := by rfl)
    (hsw : swapsWith (.Call (.Name x p) (e :: es) [] cpos) (some (.Name y py)) xpos.line X.env = pure false := by rfl) :
    PS X (.Try [.Assign [.Name y py] (.Call (.Name x p) (e :: es) [] cpos) xpos] [.ExceptHandler (some (.Name c np)) (some n) (b₀ :: suite) hpos] [] [] tpos) (tTrySet X.K sp ta j i X.N.length (.ref C) ts) := by
  intro pins s σ H D I h
  have fr := frs_stk hstk
  refine wpAny_Try_except (wpAny_execs_cons (wpAny_Assign_Name (thn (run_callX (Q := fun v H2 => D.nx (σ.set j (some v)) H2) Cf hr hg (ha _) I h (fun H1 s1 e' s' I1 cx => ?_) hdb he hpl) fun v s1 ⟨y8, H1, I1, r1, q1⟩ => ?_) hsw))
  · obtain ⟨a, T, cls, H', ee, I2, ha0, hT0, na, nT, fl, hm, hts⟩ := I1.behind cx
    subst ee
    have n0a := I1.new0 hex na
    have n0T := I1.new0 hex nT
    have two : ∀ b ∈ [a, T], b = a ∨ b = T := fun b hb => by simpa using hb
    have un : ∀ b ∈ [a, T], H' b = none := fun b hb => by rcases two b hb with z | z <;> rw [z] <;> assumption
    have u0 : ∀ b ∈ [a, T], X.s₀.heap.get? b = none := fun b hb => by rcases two b hb with z | z <;> rw [z] <;> assumption
    have pn : ∀ p ∈ X.pn ++ pins, p.1 ∉ [a, T] := fun p hp m => by
      have := (I1.pin p hp).1
      rcases two _ m with z | z
      · rw [z, na] at this; cases this
      · rw [z, nT] at this; cases this
    have kf : X.A.frames = some (X.env :: X.outer) := by rw [I.ok.frames, hstk.1]
    obtain ⟨oe, vs, a0, oT, tvs, f1, fc, f0, fd, f2, nTa, fT, fdT, f3⟩ := fl
    have FL : Heap.FlyingW (PySem.W.hideAll s'.heap ([a, T] ++ frs X.stack)) (X.env :: X.outer) a cls a0 s'.heap :=
      ⟨fun b o q => PySem.W.of_hideAll _ q, PySem.W.hideAll_none _ (by simp), I2.hid hstk.1 [a, T], oe, vs, T, oT, tvs, f1, ⟨fc, f0⟩, fd, f2, PySem.W.hideAll_none _ (by simp), nTa, fT, fdT, f3⟩
    have stay : ∀ h5, (PySem.W.hideAll s'.heap ([a, T] ++ frs X.stack)).StaysIn h5 → s'.heap.UpToSlots h5 → Stays X [a, T] s'.heap h5 := fun h5 k1 k2 =>
      ⟨fun b o b1 b2 q => k1 b o (PySem.W.hideAll_get _ q fun m => (List.mem_append.mp m).elim b1 b2), fun b o hb q => by
        obtain ⟨_, o', e', nf⟩ := I2.stack.mem hb
        rw [q] at e'
        cases e'
        exact k2 b o q nf⟩
    refine wpAny_looks_onW kf hstk.2 FL fun h4 held4 up4 => wpAny_landsW held4 fun h5 fl5 up5 => ?_
    have J5 : Inv X pins σ H' { s' with heap := h5 } := I2.stays (t' := s'.toks) hex hcl hstk (stay h5 fl5.1 (up4.trans up5)) un u0 pn
    obtain ⟨ob, hob, hobc⟩ := fl5.there
    have dat5 : ∃ ws, ob.data = .fields ws := by
      obtain ⟨_, _, _, oe5, ws, _, _, _, g1, _, g2, _⟩ := fl5
      rw [g1] at hob
      cases hob
      exact ⟨ws, g2⟩
    have aL : a ≠ X.env.locals := fun z => by
      obtain ⟨m, ⟨o, es, ep, ho, hd, _⟩, _⟩ := J5.loc
      obtain ⟨ws, hw⟩ := dat5
      rw [z] at hob
      have := hob.symm.trans ho
      cases this
      rw [hw] at hd
      cases hd
    have afs : a ∉ X.fs := fun m => by
      obtain ⟨_, o, ho, _⟩ := I1.ok.funs.mem m
      rw [n0a] at ho
      cases ho
    have ncell : ∀ (ob : Obj), (∃ ws, ob.data = .fields ws) → ∀ v, ob.data ≠ .cell v := fun ob ⟨ws, hw⟩ v q => by rw [hw] at q; cases q
    have JH5 := J5.hnd hob ha0 aL afs (ncell ob dat5)
    refine wpAny_handleBy_cons (codeAny_handlers_test (ld_glob (X := X.hnd a ob) JH5 hgc hmc ?_ hdc)) (by intro q; cases q)
    have LT : PySem.W.Looks (model X.prog X.w) h5 (typeOf (.ref a)) cls := by
      rw [← hobc]
      exact (PySem.W.Looks.ld hob).andThen .now
    refine (PySem.W.exm_one (JH5.kIn) LT hm).here ?_
    show codeAny _ _ (.handlers (.ref a) [.ExceptHandler none (some n) (b₀ :: suite) hpos] X.env) _ _
    refine codeAny_handlers_suite_as (lands_againW fl5 fun h6 fl6 up6 => ?_)
    have J6 : Inv X pins σ H' { s' with heap := h6 } := I2.stays (t' := s'.toks) hex hcl hstk (stay h6 fl6.1 ((up4.trans up5).trans up6)) un u0 pn
    obtain ⟨oc, hoc, hocc⟩ := fl6.there
    have dat6 : ∃ ws, oc.data = .fields ws := by
      obtain ⟨_, _, _, oe6, ws, _, _, _, g1, _, g2, _⟩ := fl6
      rw [g1] at hoc
      cases hoc
      exact ⟨ws, g2⟩
    have JH6 := J6.hnd hoc ha0 aL afs (ncell oc dat6)
    refine store_ok (X := X.hnd a oc) (i := i) JH6 hN hi (.inl hn) (v := .ref a) (u := .ref a) rfl (fun s7 J7 => ?_) (.inr hn)
    refine wpAny_mono (hs a oc cls hocc pins s7 _ H' _ J7 (hts a ha0)) (fun f s8 q8 => ?_) fun _ _ z => nomatch z
    have hp : (X.env.scope.kind == .class || (X.env.scope.kind == .module && X.env.locals != X.env.globals)) = false := by rw [I.ok.kind]; rfl
    have fin : ∀ {σ8 : St} {H8 : Hp}, Inv (X.hnd a oc) pins σ8 H8 s8 → (∀ s9, Inv X pins (List.replicate X.N.length none) H8 s9 → SP X pins D f s9) → wpAny (model X.prog X.w) X.A (do bindName X.env n .none; unbindBehindTheSuite X.env n hpos) (fun _ s9 => SP X pins D f s9) X.xe s8 := by
      intro σ8 H8 J8 go
      have J8 := J8.unhnd I.ok
      obtain ⟨m, hm8, _⟩ := J8.loc
      exact wpAny_nameGoes hn hm8 hp fun h9 m9 hn9 hs9 => go _ (J8.names hn9 hs9)
    cases f with
    | next => obtain ⟨σ8, H8, J8, q⟩ := q8; exact fin J8 fun s9 J9 => ⟨_, H8, J9, q⟩
    | brk => obtain ⟨σ8, H8, J8, q⟩ := q8; exact fin J8 fun s9 J9 => ⟨_, H8, J9, q⟩
    | cont => obtain ⟨σ8, H8, J8, q⟩ := q8; exact fin J8 fun s9 J9 => ⟨_, H8, J9, q⟩
    | ret u => obtain ⟨v, σ8, H8, J8, rv, q⟩ := q8; exact fin J8 fun s9 J9 => ⟨v, _, H8, J9, rv, q⟩
  · exact store_ok I1 hN hj (.inl hy) r1 (fun s2 I2 => wpAny_execs_nil (wpAny_execs_nil ⟨_, H1, I2, q1⟩)) (.inr hy)
end L2
namespace L2
open PySem PySem.Spec PyProof.Rows
def SameX (b : Addr) (H H' : Hp) : Prop := ∀ x o, x ≠ b → H x = some o → H' x = some o
theorem SameX.refl (b : Addr) (H : Hp) : SameX b H H := fun _ _ _ h => h
theorem SameX.trans {b : Addr} {H1 H2 H3 : Hp} (p : SameX b H1 H2) (q : SameX b H2 H3) : SameX b H1 H3 := fun x o ne h => q x o ne (p x o ne h)
theorem SameX.of {b : Addr} {H H' : Hp} (s : Same H H') : SameX b H H' := fun x o _ h => s x o h
theorem SameX.upd (b : Addr) (H : Hp) (o : HO) : SameX b H (upd H b o) := fun x u ne h => by rw [upd_ne ne]; exact h
theorem SameX.tk {b : Addr} {H H' : Hp} {ys : List V} (hb : H b = some (.lst ys)) (s : SameX b H H') : TupKeep H H' := fun x xs h => s x _ (fun e => by rw [e, hb] at h; cases h) h
/-- what was there ahead of the list stays -/
theorem SameX.back {b : Addr} {H H1 H2 : Hp} (h0 : H b = none) (s : Same H H1) (p : SameX b H1 H2) : Same H H2 := fun x o h => p x o (fun e => by rw [e, h0] at h; cases h) (s x o h)
theorem comp_walk {js : List Nat} {te : TE} {σ : St} {H : Hp} {Fin : Addr → Hp → Prop} {lo : Int} {n : Nat} (Pv : Addr → Nat → List V → Hp → Prop)
    (h0 : ∀ D, H D = none → Pv D 0 [] (upd H D (.lst [])))
    (hL : ∀ D i ys H', Pv D i ys H' → H' D = some (.lst ys) ∧ ys.length ≤ i)
    (he : ∀ D i ys H', i < n → H D = none → Pv D i ys H' → ∀ Q2 : VK, (∀ y H4, H4 D = some (.lst ys) → Pv D (i + 1) (ys ++ [y]) (upd H4 D (.lst (ys ++ [y]))) → Q2 y H4) → te (blkSt js σ (some (.int (lo + i)))) H' Q2)
    (hn : n ≤ sizeLine) (hd : ∀ D ys H', H D = none → Pv D n ys H' → Fin D H') : CompBy js tAll te σ (Itr lo n) H Fin := by
  intro D hD
  refine ⟨fun i m ys H' => m = n - i ∧ i ≤ n ∧ Pv D i ys H', ⟨n, by simp, Nat.zero_le _, h0 D hD⟩, ?_⟩
  rintro i m ys H' ⟨rfl, hi, p⟩
  refine ⟨(hL D i ys H' p).1, ?_⟩
  by_cases hlt : i < n
  · refine .inr ⟨hlt, fun zs H'' => Pv D (i + 1) zs H'', fun zs H'' p' => ⟨n - (i + 1), by omega, rfl, hlt, p'⟩, fun v H2 y => ?_⟩
    obtain ⟨e, y'⟩ := y
    subst e; subst y'
    have := (hL D i ys _ p).2
    dsimp only [tAll]
    rw [if_pos rfl]
    exact he D i ys _ hlt hD p _ fun y H4 h1 h2 => ⟨h1, by omega, h2⟩
  · have e : i = n := by omega
    subst e
    exact .inl ⟨Nat.le_refl _, hd D ys H' hD p⟩
section
variable {X : Cx}
theorem call_isT : CallR X (.builtin "isinstance") (fun xs H Q => ∃ (a : Addr) (ys : List V), xs = [.ref a, .ty "tuple"] ∧ SqT X.K H a ys ∧ Q (.bl true) H) := by
  intro pins s σ H xs us Q I r h
  obtain ⟨a, ys, rfl, hq, q⟩ := h
  obtain ⟨u, v, rfl, ru, rv⟩ := r.two
  cases ru
  cases rv
  obtain ⟨its, rv, ⟨o, h1, h2, _⟩, hz⟩ := I.tuple hq
  exact PySem.W.kia_one PySem.W.kitx_tuple I.kIn ⟨o, h1, h2⟩ (kit_same X.K "tuple") (fun z => nomatch z) fun tk => ⟨.bl true, H, I.tok tk, rfl, q⟩
end
end L2
namespace L2
open PySem PySem.Spec PyProof.Rows
section
variable {X : Cx}
def rStarts3 : V → List V → Hp → VK → Prop := fun x vs H Q => ∃ (a b : Str) (i : Int), x = .str a ∧ vs = [.str b, .int i] ∧ Q (.bl (Txt.startswith3 a b i)) H
theorem mt_starts3 : MtR X "str.startswith" rStarts3 := by
  intro pins s σ H x vs v us Q I rx rv h
  obtain ⟨a, b, i, rfl, rfl, q⟩ := h
  obtain ⟨t, rfl⟩ := rx
  obtain ⟨u, w, rfl, ⟨k, rfl⟩, ⟨k2, rfl⟩⟩ := rv.two
  exact SC.startswith3 ⟨.bl _, H, I, rfl, q⟩
theorem call_intT : CallR X (.type "int") (fun xs H Q => ∃ (x : Str) (n : Int), xs = [.str x] ∧ intText? x = some n ∧ x.length ≤ 640 ∧ Q (.int n) H) := by
  intro pins s σ H xs us Q I r h
  obtain ⟨x, n, rfl, hn, hl, q⟩ := h
  obtain ⟨u, rfl, t, rfl⟩ := vals1 r
  exact PySem.W.KIN.call_text hn hl ⟨.int n, H, I.tok _, ⟨_, rfl⟩, q⟩
end
/-- one of the figures -/
def isFig (c : Nat) : Bool := decide (48 ≤ c ∧ c ≤ 57)
theorem fig_in (c : Nat) : (!(Builtin.Str.occurrences (Str.ofString "0123456789") ⟨#[c]⟩ 0 (Str.ofString "0123456789").length 1).isEmpty) = isFig c := by
  have l10 : (Str.ofString "0123456789").length = 10 := by decide +kernel
  rw [l10]
  unfold isFig
  by_cases h : 48 ≤ c ∧ c ≤ 57
  · rw [decide_eq_true h]
    obtain ⟨h1, h2⟩ := h
    obtain ⟨k, rfl⟩ : ∃ k, c = 48 + k := ⟨c - 48, by omega⟩
    have hk : k < 10 := by omega
    clear h1 h2
    revert hk
    revert k
    decide +kernel
  · rw [decide_eq_false h]
    have hx : ∀ i : Fin 10, (Str.ofString "0123456789").cps.extract i (i + 1) = #[48 + i.val] := by decide +kernel
    have e : Builtin.Str.occurrences (Str.ofString "0123456789") ⟨#[c]⟩ 0 10 1 = [] := by
      rw [List.eq_nil_iff_forall_not_mem]
      intro i hi
      obtain ⟨a, b⟩ := StrLaws.occ_spec _ _ _ _ _ _ hi
      have hlt : i < 10 := by
        have : i + 1 ≤ 10 := a
        omega
      have b : ((Str.ofString "0123456789").cps.extract i (i + 1) == #[c]) = true := b
      rw [hx ⟨i, hlt⟩] at b
      have b := eq_of_beq b
      have : 48 + i = c := by simpa using b
      omega
    rw [e]
    rfl
end L2
namespace STab
open PySem PyProof.Rows
section
variable {prog : Program} {w : World} {A : Around} {R : Result → Shared → Prop} {I : Addr} {fp wr : List Addr} {n : Nat} {P : Nat → Value → Prop} {St : Nat → Heap → Prop}
def KptG (h0 : Heap) (wr : List Addr) (h : Heap) : Prop := ∀ b o, b ∉ wr → h0.get? b = some o → h.get? b = some o
def CmpAtG (prog : Program) (w : World) (A : Around) (s0 : Shared) (wr : List Addr) (P : Nat → Value → Prop) (bt : Nat → Nat → Bool) : Prop :=
  ∀ i j vi vj (h' : Heap) (tk : Nat) (Q : Value → Shared → Prop) (E : Value → Shared → Prop), KptG s0.heap wr h' → P i vi → P j vj → Q (.bool (bt i j)) { s0 with heap := h', toks := tk } → wpAny (model prog w) A (richCompare .Gt vi vj) Q E { s0 with heap := h', toks := tk }
theorem max_loopD (dv : Value) (s0 : Shared) (W : Walks prog w A.in1 I fp wr n P St) (bt : Nat → Nat → Bool) (hcmp : CmpAtG prog w A.in1 s0 wr P bt) (S : Addr) (hSf : S ∉ fp) (hS0 : s0.heap.get? S = none) :
    ∀ (k j : Nat) (h : Heap) (tk0 : Nat) (vb : Value) (c : Nat), n - (j + 1) = k → j + 1 ≤ n → St (j + 1) h → KptG s0.heap wr h → P (argBest bt j) vb →
    h.get? S = some { cls := .type "list", dict := none, data := .seq #[vb, vb] c, slots := #[] } →
    (∀ v h' tk, P (argBest bt (n - 1)) v → KptG s0.heap wr h' → R (.ok (.ret v)) { s0 with heap := h', toks := tk }) →
    codeAny (model prog w) A (.builtin "max.loop" ⟨[.ref I, .none, .ref S], [("default", dv)]⟩) R { s0 with heap := h, toks := tk0 } := by
  have hSw : S ∉ wr := fun h => hSf (W.sub _ h)
  have hname : (toString "max" ++ toString ".loop" : String) = "max.loop" := by decide
  have keepS : ∀ (h : Heap) (g : Obj → Obj), KptG s0.heap wr h → KptG s0.heap wr (h.update S g) := fun h g hk b o hb e => by
    have ne : S ≠ b := fun z => by rw [← z, hS0] at e; cases e
    exact (Heap.get?_update_other _ _ ne).trans (hk b o hb e)
  intro k
  induction k with
  | zero =>
    intro j h tk0 vb c hk hj hst hkp hPb hS hR
    have hin : j + 1 = n := by omega
    refine codeAny_builtin F.entry_max_loop ?_
    rw [Around.under_plainId F.plain_max_loop _]
    show wpAny _ A.in1 (seqItems? (.ref S) >>= _) _ _ _
    refine wpAny_bind (wpAny_seqItems hS rfl ?_)
    show wpAny _ A.in1 (tryCatch (pyNext (.ref I)) _ >>= _) _ _ _
    refine wpAny_bind (wpAny_tryCatch (W.done _ _ _ (hin ▸ hst) fun h' tk hk' => ?_))
    have hS' := hk' S _ hSw hS
    show wpAny _ A.in1 (updateSeq S (fun _ => #[]) >>= _) _ _ _
    refine wpAny_bind ?_
    refine wpAny_updateSeq hS' rfl (wpAny_bind (wpAny_letGo (wpAny_pure ?_)))
    exact hR vb _ tk (by rw [← hin]; exact hPb) (keepS _ _ fun b o hb e => hk' b o hb (hkp b o hb e))
  | succ k ih =>
    intro j h tk0 vb c hk hj hst hkp hPb hS hR
    have hlt : j + 1 < n := by omega
    refine codeAny_builtin F.entry_max_loop ?_
    rw [Around.under_plainId F.plain_max_loop _]
    show wpAny _ A.in1 (seqItems? (.ref S) >>= _) _ _ _
    refine wpAny_bind (wpAny_seqItems hS rfl ?_)
    show wpAny _ A.in1 (tryCatch (pyNext (.ref I)) _ >>= _) _ _ _
    refine wpAny_bind (wpAny_tryCatch (W.item (j + 1) _ _ _ hlt hst fun v h' tk hP hst' hk' => ?_))
    have hS' := hk' S _ hSw hS
    have hkp' : KptG s0.heap wr h' := fun b o hb e => hk' b o hb (hkp b o hb e)
    show wpAny _ A.in1 (tryCatch (holding [v, v] (richCompare .Gt v vb >>= _)) _ >>= _) _ _ _
    refine wpAny_bind (wpAny_tryCatch (wpAny_holding (wpAny_bind (hcmp (j + 1) (argBest bt j) v vb h' tk _ _ hkp' hP hPb ?_))))
    refine wpAny_bind (wpAny_holding (wpAny_truthy_bool ?_))
    refine wpAny_bind (wpAny_letGo (wpAny_pure ?_))
    cases hb : bt (j + 1) (argBest bt j) with
    | true =>
      simp only [if_true]
      refine wpAny_bind ?_
      refine wpAny_updateSeq hS' rfl (wpAny_bind (wpAny_letGo ?_))
      rw [hname]
      refine wpAny_pure ⟨plainId_quiet F.plain_max_loop _, ih (j + 1) _ _ v _ (by omega) hlt (W.frame _ _ _ hst' fun b hbf o e => ?_) (keepS _ _ hkp') (by simp only [argBest, hb, if_true]; exact hP) (Heap.get?_update_self _ hS' rfl) hR⟩
      exact (Heap.get?_update_other _ _ (fun h : S = b => hSf (by rw [h]; exact hbf))).trans e
    | false =>
      simp only [Bool.false_eq_true, if_false]
      refine wpAny_bind (wpAny_letGo ?_)
      rw [hname]
      exact wpAny_pure ⟨plainId_quiet F.plain_max_loop _, ih (j + 1) h' tk vb c (by omega) hlt hst' hkp' (by simp only [argBest, hb, Bool.false_eq_true, if_false]; exact hPb) hS' hR⟩
end
section
variable {prog : Program} {w : World} {A : Around} {E : Value → Shared → Prop} {s : Shared}
theorem call_function_tree_kw {id : String} {b : Builtin} {args : List Value} {kw : List (Str × Value)} {Q : Value → Shared → Prop} (hk : builtinKind id = none) (hp : plainId id = true) (hb : entryFor table id = some b) (ha : argsOk id { pos := args, kw := kw })
    (hc : wpAny (model prog w) A.in1 (b { pos := args, kw := kw }) (fun fin s' => match fin with
      | .done f => match (Except.ok f : Result) with | .ok (.ret v) => Q v s' | .ok _ => False | .error e => E e s'
      | .again c' => c'.quiet = true ∧ codeAny (model prog w) A c' (fun r s' => match r with | .ok (.ret v) => Q v s' | .ok _ => False | .error e => E e s') s') E s) :
    wpAny (model prog w) A (call (.builtin id) args kw) Q E s := by
  refine wpAny_call (codeAny_call_builtin hp hb ?_)
  have e : checkBuiltinCall id { pos := args, kw := kw } = pure () := by
    unfold checkBuiltinCall
    rw [hk]
    dsimp only
    unfold argsOk at ha
    cases hs : Manifest.signature? id with
    | none => rfl
    | some sig =>
      rw [hs] at ha
      exact ha
  exact wpAny_of_eq e hc
theorem call_maxD {x dv : Value} {Q : Value → Shared → Prop}
    (h : wpAny (model prog w) A.in1 (pyIter x) (fun it s₂ => ∃ I fp wr n P St bt, it = .ref I ∧ Walks prog w A.in1 I fp wr n P St ∧ St 0 s₂.heap ∧ (∀ b ∈ fp, b < s₂.heap.objs.size) ∧ CmpAtG prog w A.in1 s₂ wr P bt ∧
      (0 < n → ∀ v h' tk, P (argBest bt (n - 1)) v → KptG s₂.heap wr h' → Q v { s₂ with heap := h', toks := tk }) ∧ (n = 0 → ∀ h' tk, KptG s₂.heap wr h' → Q dv { s₂ with heap := h', toks := tk })) E s) :
    wpAny (model prog w) A (call (.builtin "max") [x] [("default", dv)]) Q E s := by
  have hname : (toString "max" ++ toString ".loop" : String) = "max.loop" := by decide
  refine call_function_tree_kw F.kind_max F.plain_max F.entry_max (by rfl) ?_
  show wpAny _ A.in1 (Builtin.Builtins.bindParams "max" ["key", "default"] 0 ⟨[], [("default", dv)]⟩ >>= _) _ _ s
  refine wpAny_bind (wpAny_of_eq (show Builtin.Builtins.bindParams "max" ["key", "default"] 0 ⟨[], [("default", dv)]⟩ = pure [none, some dv] from rfl) ?_)
  refine wpAny_bind (wpAny_pure ?_)
  refine wpAny_bind (wpAny_mono h (fun it s₂ h₂ => ?_) fun _ _ e => e)
  obtain ⟨I, fp, wr, n, P, St, bt, rfl, W, hst, hfp, hcmp, hQ, hQ0⟩ := h₂
  refine wpAny_bind (wpAny_newObj_type ?_)
  have hSf : s₂.heap.objs.size ∉ fp := fun hm => Nat.lt_irrefl _ (hfp _ hm)
  have hSw : s₂.heap.objs.size ∉ wr := fun h => hSf (W.sub _ h)
  have hS0 : s₂.heap.get? s₂.heap.objs.size = none := by
    cases q : s₂.heap.get? s₂.heap.objs.size with
    | none => rfl
    | some o => exact absurd (Heap.lt_size q) (Nat.lt_irrefl _)
  rw [hname]
  refine wpAny_pure ⟨plainId_quiet F.plain_max_loop _, codeAny_builtin F.entry_max_loop ?_⟩
  rw [Around.under_plainId F.plain_max_loop _]
  have hS := Heap.get?_push_size s₂.heap (o := { cls := .type "list", dict := none, data := .seq #[] 0, slots := #[] }) rfl
  show wpAny _ A.in1 (seqItems? (.ref s₂.heap.objs.size) >>= _) _ _ _
  refine wpAny_bind (wpAny_seqItems hS rfl ?_)
  show wpAny _ A.in1 (tryCatch (pyNext (.ref I)) _ >>= _) _ _ _
  by_cases hn : 0 < n
  · refine wpAny_bind (wpAny_tryCatch (W.item 0 _ _ _ hn (W.frame _ _ _ hst fun b _ o e => Heap.get?_push_of_some _ e) fun v h' tk hP hst' hk' => ?_))
    have hS' := hk' s₂.heap.objs.size _ hSw hS
    show wpAny _ A.in1 (updateSeq s₂.heap.objs.size (fun _ => #[v, v]) >>= _) _ _ _
    refine wpAny_bind ?_
    refine wpAny_updateSeq hS' rfl ?_
    rw [hname]
    refine wpAny_pure ⟨plainId_quiet F.plain_max_loop _, max_loopD dv s₂ W bt hcmp s₂.heap.objs.size hSf hS0 _ 0 _ _ v _ rfl hn (W.frame _ _ _ hst' fun b hbf o e => ?_) (fun b o hb e => ?_) hP (Heap.get?_update_self _ hS' rfl) (hQ hn)⟩
    · exact (Heap.get?_update_other _ _ (fun h : s₂.heap.objs.size = b => hSf (by rw [h]; exact hbf))).trans e
    · have ne : s₂.heap.objs.size ≠ b := fun z => by rw [← z, hS0] at e; cases e
      exact (Heap.get?_update_other _ _ ne).trans (hk' b o hb (Heap.get?_push_of_some _ e))
  · have n0 : n = 0 := by omega
    subst n0
    refine wpAny_bind (wpAny_tryCatch (W.done _ _ _ (W.frame _ _ _ hst fun b _ o e => Heap.get?_push_of_some _ e) fun h' tk hk' => ?_))
    have hS' := hk' s₂.heap.objs.size _ hSw hS
    show wpAny _ A.in1 (rule (toString "max" ++ toString ".default") >>= _) _ _ _
    refine wpAny_bind (wpAny_rule (wpAny_pure ?_))
    exact hQ0 rfl h' tk fun b o hb e => hk' b o hb (Heap.get?_push_of_some _ e)
end
end STab
namespace L2
open PySem PySem.Spec PyProof.Rows
section
variable {X : Cx}
/-- max(l, default=k), l a list of whole numbers -/
def tMaxD (K : PySem.W.Frag) (k : Int) (tl : TE) : TE := fun σ H Q => tl σ H fun x H1 => ∃ (p : Addr) (ns : List Int), x = .ref p ∧ SqL K H1 p (ns.map V.int) ∧ (ns = [] → Q (.int k) H1) ∧ ∀ m, m ∈ ns → (∀ a ∈ ns, a ≤ m) → Q (.int m) H1
theorem pe_maxD {l : Expr} {tl : TE} {k : Int} {p kp cp pos : Pos} (hc : X.calm = true) (hg : Gl X "max") (hm : X.mg "max" = none) (hl : PE X l tl) (hs : starEach [l] X.env = [(false, eval l X.env)] := by rfl) :
    PE X (.Call (.Name "max" p) [l] [⟨some "default", .Constant (.int k) 0 cp, kp⟩] pos) (tMaxD X.K k tl) := by
  intro pins s σ H Q I h
  have eb : backTo pos (starEach [l] X.env) = [(false, eval l X.env)] := by
    rw [hs]
    rfl
  refine wpAny_Call_Name_kw (ld_blt I hg hm boot_max (callWith_builtin_kwB (by rw [eb]; rfl) rfl ?_))
  rw [eb]
  refine evalArgs_kwB rfl (Calls.spliced_cons (thn (hl pins s σ H _ I h) fun u s1 ⟨x, H1, I1, r1, q⟩ => Calls.spliced_nil ?_))
  refine kws_cons ?_
  refine thn (pe_int (X := X) (i := k) pins s1 σ H1 (fun v H2 => v = .int k ∧ H2 = H1) I1 ⟨rfl, rfl⟩) fun u2 s2 ⟨v2, H2, I2, r2, e2, e3⟩ => ?_
  subst e2; subst e3
  obtain ⟨t, rfl⟩ := r2
  refine kws_nil ?_
  obtain ⟨p, ns, rfl, hq, q0, qm⟩ := q
  cases r1
  obtain ⟨its, rv, pl, hz⟩ := I2.list hq
  have hp : p < s2.heap.objs.size := by
    obtain ⟨o, n, ho, _⟩ := pl
    exact Heap.lt_size ho
  have li : ns.length = its.length := by
    have := rv.length
    rw [List.length_map] at this
    exact this
  have vals : ∀ (i : Nat) (v : Value), its.toArray[i]? = some v → ∃ t, v = Value.int (ns.getD i 0) t := fun i v hv => by
    rw [List.getElem?_toArray] at hv
    have i1 : i < ns.length := by have := (List.getElem?_eq_some_iff.mp hv).1; omega
    obtain ⟨u, hu, ru⟩ := rv.get (show (ns.map V.int)[i]? = some (.int ns[i]) by rw [List.getElem?_map, List.getElem?_eq_getElem i1]; rfl)
    rw [hv] at hu
    cases hu
    obtain ⟨t, e⟩ := ru
    refine ⟨t, ?_⟩
    rw [List.getD_eq_getElem?_getD, List.getElem?_eq_getElem i1]
    exact e
  have fresh : ∀ {h' : Heap}, STab.KptG (s2.heap.push { cls := .type "list_iterator", data := .fields #[.ref p, rawInt 0] }) [s2.heap.objs.size] h' → ∀ b o, s2.heap.get? b = some o → h'.get? b = some o := fun hk b o e => hk b o (fun z => by
    have z : b = s2.heap.objs.size := by simpa using z
    have := Heap.lt_size e
    rw [z] at this
    exact absurd this (Nat.lt_irrefl _)) (Heap.get?_push_of_some _ e)
  show wpAny _ _ (call (.builtin "max") [.ref p] [("default", .int k t)]) _ _ _
  refine STab.call_maxD (wpAny_pyIter_list pl.isList ?_)
  have calm : X.A.in1.handled = none := I.ok.hd hc
  refine ⟨s2.heap.objs.size, _, _, _, _, _, fun i j => decide (ns.getD i 0 > ns.getD j 0), rfl, Walks.list (A := X.A.in1) calm s2.heap.objs.size p (Nat.ne_of_lt hp) its.toArray, ⟨⟨_, Heap.get?_push_size _ rfl, rfl, rfl⟩, pl.isList.at fun o e => Heap.get?_push_of_some _ e⟩, ?_, ?_, fun hn v h' tk hP hk => ?_, fun hn h' tk hk => ?_⟩
  · intro b hb
    rw [Heap.size_push]
    rcases List.mem_cons.mp hb with z | z
    · rw [z]; exact Nat.lt_succ_self _
    · rw [List.mem_singleton.mp z]; exact Nat.lt_succ_of_lt hp
  · intro i j vi vj h' tk Q' E' _ hi hj hQ
    exact CmpOf.ints_gt (fun i => ns.getD i 0) vals i j vi vj _ Q' E' hi hj hQ
  · have hn : 0 < ns.length := by rw [List.size_toArray] at hn; omega
    have hP : its.toArray[argBest (fun i j => decide (ns.getD i 0 > ns.getD j 0)) (its.toArray.size - 1)]? = some v := hP
    have esz : its.toArray.size - 1 = ns.length - 1 := by rw [List.size_toArray]; omega
    rw [esz] at hP
    obtain ⟨t', rfl⟩ := vals _ _ hP
    have lt := best_lt (fun i j => decide (ns.getD i 0 > ns.getD j 0)) (ns.length - 1)
    refine ⟨.int _, H2, I2.kept (t' := tk) (fun b o e => fresh hk b o e), ⟨_, rfl⟩, qm _ ?_ fun a ha => ?_⟩
    · rw [List.getD_eq_getElem?_getD, List.getElem?_eq_getElem (by omega)]
      exact List.getElem_mem _
    · obtain ⟨j, hj⟩ := List.getElem?_of_mem ha
      have jl := (List.getElem?_eq_some_iff.mp hj).1
      have := best_le (lt := fun a b : Int => decide (a > b)) (fun a => decide_eq_false (by omega)) (fun a b c h1 h2 => decide_eq_true (by have := of_decide_eq_true h1; have := of_decide_eq_true h2; omega)) (fun i => ns.getD i 0) (ns.length - 1) j (by omega)
      have := of_decide_eq_false this
      rw [List.getD_eq_getElem?_getD, hj] at this
      exact Int.not_lt.mp this
  · have e : ns = [] := List.length_eq_zero_iff.mp (by rw [List.size_toArray] at hn; omega)
    exact ⟨.int k, H2, I2.kept (t' := tk) (fun b o e => fresh hk b o e), ⟨_, rfl⟩, q0 e⟩
end
end L2
namespace L2
open PySem PySem.Spec PyProof.Rows
section
variable {X : Cx} {es : List Expr} {t : TA} {pos : Pos}
def tMo (t : TA) : TA := fun σ H K => ∃ K', t σ H K' ∧ ∀ xs H1, K' xs H1 → K xs H1
theorem pa_mo (h : PA X es t) : PA X es (tMo t) := fun p pins s σ H K I ⟨K', hk, im⟩ => thn (h p pins s σ H K' I hk) fun us s1 ⟨xs, H1, I1, r, q⟩ => ⟨xs, H1, I1, r, im _ _ q⟩
def tTupG (t : TA) : TE := fun σ H Q => t σ H fun xs H1 => xs.length ≤ sizeLine ∧ ∀ p H2, Same H1 H2 → H2 p = some (.tup xs) → Q (.ref p) H2
theorem pe_tupG {x1} (h : PA X es t) : PE X (.Tuple es x1 pos) (tTupG t) := fun pins s σ H Q I hq => pe_tup (pa_mo h) pins s σ H Q I ⟨_, hq, fun xs H1 ⟨z, q⟩ => ⟨z, fun p p0 => q p _ (Same.new p0) upd_same⟩⟩
def tLstG (t : TA) : TE := fun σ H Q => t σ H fun xs H1 => xs.length ≤ sizeLine ∧ ∀ p H2, Same H1 H2 → H1 p = none → H2 p = some (.lst xs) → Q (.ref p) H2
theorem pe_lstG (h : PA X es t) : PE X (.List es pos) (tLstG t) := fun pins s σ H Q I hq => pe_lst (pa_mo h) pins s σ H Q I ⟨_, hq, fun xs H1 ⟨z, q⟩ => ⟨z, fun p p0 => q p _ (Same.new p0) p0 upd_same⟩⟩
def rCatG : R2 := fun x y H Q => ∃ l b xs zs, x = .ref l ∧ y = .ref b ∧ H l = some (.lst xs) ∧ H b = some (.lst zs) ∧ xs.length + zs.length ≤ sizeLine ∧ ∀ p H2, Same H H2 → H p = none → H2 p = some (.lst (xs ++ zs)) → Q (.ref p) H2
theorem op_catG : OpR X (binaryOp .Add) rCatG := fun pins s σ H x y v u Q I rx ry ⟨l, b, xs, zs, e1, e2, h1, h2, z, q⟩ => op_cat pins s σ H x y v u Q I rx ry ⟨l, b, xs, zs, e1, e2, h1, h2, z, fun p p0 => q p _ (Same.new p0) p0 upd_same⟩
end
end L2
local macro_rules | `(tactic| walk_at "rq") => `(tactic| first | assumption | exact L2.SqL.of (by assumption) | exact L2.SqT.of (by assumption) | exact L2.Same.seq (by assumption) (by assumption) | exact L2.Same.seqT (by assumption) (by assumption))
local macro_rules | `(tactic| walk_at "rs") => `(tactic| first | decide | (dsimp only; omega) | assumption | exact My.flat_ints _ | exact My.plain_ints _ | exact ⟨by decide, by decide⟩ | exact ⟨by omega, by omega⟩ | exact .inl ⟨by decide, by decide⟩ | exact .inr ⟨by decide, by decide⟩ | exact .inl ⟨by omega, by omega⟩ | exact .inr ⟨by omega, by omega⟩)
local macro_rules | `(tactic| walk_at "r1") => `(tactic| first | refine ⟨_, rfl, ?_⟩ | refine ⟨_, _, rfl, rfl, ?_⟩ | refine ⟨rfl, ?_⟩ | refine ⟨by walk_at "rs", ?_⟩ | refine ⟨_, _, rfl, .inl (by walk_at "rq"), ?_⟩ | refine ⟨_, _, rfl, .inr (by walk_at "rq"), ?_⟩ | refine ⟨_, _, _, _, rfl, rfl, by walk_at "rq", by first | assumption | rfl, ?_⟩)
local macro_rules | `(tactic| walk_at "rd") => `(tactic| repeat walk_at "r1")
namespace My
open PySem L2
def top (i : Nat) : Stmt := PySem.Challenge.pw_tonemirror_k47_any_saying_text.main.body.getD i (.Pass ⟨0, 0, 0, 0⟩)

def lT (t : Bool) : Str := match t with
  | true => "t"
  | false => "m"
def chT (t : Bool) (m : Int) : Str := lT t ++ iS m
theorem iS_fin : ∀ a b : Fin 24, iS (a.val : Int) = iS (b.val : Int) → a = b := by decide +kernel
theorem iS_inj {x y : Int} (hx : 0 ≤ x ∧ x < 24) (hy : 0 ≤ y ∧ y < 24) (h : iS x = iS y) : x = y := by
  have e1 : x = ((⟨x.toNat, by omega⟩ : Fin 24).val : Int) := by show x = ((x.toNat : Nat) : Int); omega
  have e2 : y = ((⟨y.toNat, by omega⟩ : Fin 24).val : Int) := by show y = ((y.toNat : Nat) : Int); omega
  rw [e1, e2] at h
  have := iS_fin _ _ h
  have := congrArg Fin.val this
  have : x.toNat = y.toNat := this
  omega
theorem iS_facts : ∀ a : Fin 24, (iS (a.val : Int)).length ≤ 2 ∧ 1 ≤ (iS (a.val : Int)).length ∧ 44 ∉ (iS (a.val : Int)).cps.toList ∧ iS (a.val : Int) ≠ "-" := by decide +kernel
theorem iS_at {x : Int} (hx : 0 ≤ x ∧ x < 24) : (iS x).length ≤ 2 ∧ 1 ≤ (iS x).length ∧ 44 ∉ (iS x).cps.toList ∧ iS x ≠ "-" := by
  have e1 : x = ((⟨x.toNat, by omega⟩ : Fin 24).val : Int) := by show x = ((x.toNat : Nat) : Int); omega
  rw [e1]
  exact iS_facts _
theorem chT_facts : ∀ (t : Bool) (a : Fin 24), cutS (chT t (a.val : Int)) (some 1) none = iS (a.val : Int) ∧ Txt.startswith (chT t (a.val : Int)) "t" = t ∧ Txt.startswith (chT t (a.val : Int)) "m" = !t ∧ (chT t (a.val : Int)).length ≤ 3 := by decide +kernel
theorem chT_at (t : Bool) {x : Int} (hx : 0 ≤ x ∧ x < 24) : cutS (chT t x) (some 1) none = iS x ∧ Txt.startswith (chT t x) "t" = t ∧ Txt.startswith (chT t x) "m" = !t ∧ (chT t x).length ≤ 3 := by
  have e1 : x = ((⟨x.toNat, by omega⟩ : Fin 24).val : Int) := by show x = ((x.toNat : Nat) : Int); omega
  rw [e1]
  exact chT_facts t _
theorem lT_len (t : Bool) : (lT t).length ≤ 1 := by cases t <;> decide +kernel
theorem slen2 {a b : Str} {x y : Nat} (ha : a.length ≤ x) (hb : b.length ≤ y) : (a ++ b).length ≤ x + y := by
  rw [strLen_append]
  omega
theorem flat_strs (ts : List Str) : (ts.map V.str).all flatV = true := by
  rw [List.all_map, List.all_eq_true]
  intro x _
  rfl
theorem inV_str (x : Str) (ts : List Str) : inV (V.str x) (ts.map V.str) = decide (x ∈ ts) := by
  unfold inV
  rw [List.any_map, Bool.eq_iff_iff]
  simp only [List.any_eq_true, Function.comp, decide_eq_true_eq]
  constructor
  · rintro ⟨y, hy, e⟩
    have : y = x := by simpa [eqV] using e
    rw [← this]; exact hy
  · intro h
    exact ⟨x, h, by simp [eqV]⟩
/-- the tone that a text writes -/
def numT (n : Int) (t : Str) : Option Int := (rng n).find? fun x => decide (iS x = t)
theorem numT_some {n x : Int} {t : Str} (n24 : n ≤ 24) : numT n t = some x ↔ (0 ≤ x ∧ x < n) ∧ iS x = t := by
  unfold numT
  constructor
  · intro h
    have p := List.find?_some h
    exact ⟨rng_mem.mp (List.mem_of_find?_eq_some h), of_decide_eq_true p⟩
  · rintro ⟨b, e⟩
    cases h : (rng n).find? (fun x => decide (iS x = t)) with
    | none => exact absurd (decide_eq_true e) (List.find?_eq_none.mp h x (rng_mem.mpr b))
    | some y =>
      have p := List.find?_some h
      have hy := rng_mem.mp (List.mem_of_find?_eq_some h)
      have e2 : iS y = t := of_decide_eq_true p
      rw [iS_inj ⟨hy.1, by omega⟩ ⟨b.1, by omega⟩ (e2.trans e.symm)]
theorem numT_none {n : Int} {t : Str} : numT n t = none ↔ t ∉ (rng n).map iS := by
  unfold numT
  rw [List.find?_eq_none]
  constructor
  · intro h m
    obtain ⟨x, hx, e⟩ := List.mem_map.mp m
    exact h x hx (decide_eq_true e)
  · intro h x hx z
    exact h (List.mem_map.mpr ⟨x, hx, of_decide_eq_true z⟩)
/-- signs that can be told -/
def Sg (t : Str) : Prop := ∀ c ∈ t.cps.toList, c < 128
theorem rep_len {t : Str} (h : Sg t) (l : t.length ≤ 4000) : (reprText t).length ≤ 40002 := by
  have := StrLaws.reprText_len t fun c hc => Nat.lt_trans (h c hc) (by decide)
  omega
theorem cut_signs {t : Str} (h : Sg t) : Sg (cutS t (some 1) none) := fun c hc => by
  unfold cutS at hc
  exact h c (List.mem_of_mem_drop (List.mem_of_mem_take (by simpa using hc)))
def RdH (n : Int) (t : Str) (b : Bool) (m : Int) : Prop := numT n (cutS t (some 1) none) = some m ∧ ((b = true ∧ Txt.startswith t "t" = true) ∨ (b = false ∧ Txt.startswith t "t" = false ∧ Txt.startswith t "m" = true))

theorem lg_smaller {x : Int} (h : x ≤ 24) (h0 : 0 ≤ x) : x.natAbs.log2 < 1920 := by
  refine Nat.lt_of_le_of_lt (Nat.log2_le_self _) ?_
  omega

/-- a saying's head, over the sayings straight within it -/
inductive SyF (α : Type) where
  | ch (t : Bool) (m : Int)
  | row (l : List α)
  | tm (s : α) (k : Int)
  | un (s : α)
/-- sayings of at most so many within one another -/
def Sy : Nat → Type
  | 0 => Empty
  | d + 1 => SyF (Sy d)
def SayF {α : Type} (H : Hp) (R : V → α → Prop) (v : V) : SyF α → Prop
  | .ch t m => ∃ p q, v = .ref p ∧ H p = some (.tup [V.str "change", .ref q]) ∧ H q = some (.tup (chV t m))
  | .row l => ∃ p q vs, v = .ref p ∧ H p = some (.tup [V.str "row", .ref q]) ∧ H q = some (.tup vs) ∧ Paired R vs l
  | .tm u k => ∃ p w, v = .ref p ∧ H p = some (.tup [V.str "times", w, .int k]) ∧ R w u
  | .un u => ∃ p w, v = .ref p ∧ H p = some (.tup [V.str "undo", w]) ∧ R w u
/-- a value that is the saying -/
def SayR (H : Hp) : (d : Nat) → V → Sy d → Prop
  | 0, _, _ => False
  | d + 1, v, s => SayF H (SayR H d) v (show SyF (Sy d) from s)
theorem SayF.mono {α : Type} {H1 H2 : Hp} {R S : V → α → Prop} {v : V} (t : TupKeep H1 H2) (f : ∀ x y, R x y → S x y) : ∀ s : SyF α, SayF H1 R v s → SayF H2 S v s
  | .ch _ _, ⟨p, q, e, h1, h2⟩ => ⟨p, q, e, t _ _ h1, t _ _ h2⟩
  | .row _, ⟨p, q, vs, e, h1, h2, pr⟩ => ⟨p, q, vs, e, t _ _ h1, t _ _ h2, prd_imp f pr⟩
  | .tm _ _, ⟨p, w, e, h1, r⟩ => ⟨p, w, e, t _ _ h1, f _ _ r⟩
  | .un _, ⟨p, w, e, h1, r⟩ => ⟨p, w, e, t _ _ h1, f _ _ r⟩
theorem SayR.mono {H1 H2 : Hp} (t : TupKeep H1 H2) : ∀ (d : Nat) (v : V) (s : Sy d), SayR H1 d v s → SayR H2 d v s
  | 0, _, _, h => h
  | d + 1, _, s, h => SayF.mono t (fun x y r => SayR.mono t d x y r) (show SyF (Sy d) from s) h

def isTm : (d : Nat) → Sy d → Prop
  | 0, _ => False
  | d + 1, s => match (show SyF (Sy d) from s) with
    | .tm _ _ => True
    | _ => False
/-- within its bounds; with fl = 0 such as can be written -/
def Good (n fl : Int) : (d : Nat) → Sy d → Prop
  | 0, _ => True
  | d + 1, s => match (show SyF (Sy d) from s) with
    | .ch _ m => 0 ≤ m ∧ m < n
    | .row l => l.length ≤ 60 ∧ ∀ u ∈ l, Good n fl d u
    | .tm u k => 0 ≤ k ∧ k ≤ 10 ^ 30 ∧ Good n fl d u ∧ (fl = 0 → ¬ isTm d u)
    | .un u => Good n fl d u ∧ (fl = 0 → ¬ isTm d u)
/-- how many sayings altogether -/
def nod : (d : Nat) → Sy d → Nat
  | 0, _ => 0
  | d + 1, s => match (show SyF (Sy d) from s) with
    | .ch _ _ => 1
    | .row l => 1 + (l.map (nod d)).sum
    | .tm u _ => 1 + nod d u
    | .un u => 1 + nod d u
def cntS : Nat → Nat
  | 0 => 0
  | d + 1 => 1 + 3 * cntS d
theorem cntS_succ (d : Nat) : ((cntS (d + 1) : Nat) : Int) = 1 + 3 * (cntS d : Int) := by
  show (((1 + 3 * cntS d : Nat)) : Int) = _
  omega
theorem two_at (c : Int) : ∃ t : Bool, atI [V.str "turn", V.str "mirror"] (c % 2) = some (V.str (kS t)) := by
  rcases (by omega : c % 2 = 0 ∨ c % 2 = 1) with e | e
  · rw [e]; exact ⟨true, rfl⟩
  · rw [e]; exact ⟨false, rfl⟩
theorem three_fit : 3 ≤ sizeLine := by decide
theorem pow_ok {j : Int} (h0 : 0 ≤ j) (h1 : j ≤ 1000) : CPow 10 j := ⟨h0, by omega, by decide⟩
theorem step_le {j m : Nat} (h : j < 4) : j * m ≤ 3 * m := Nat.mul_le_mul_right m (by omega)

/-- the text of a saying -/
def txt : (d : Nat) → Sy d → Str
  | 0, _ => Str.ofString ""
  | d + 1, s => match (show SyF (Sy d) from s) with
    | .ch t m => chT t m
    | .row l => Str.ofString "(" ++ Str.join (Str.ofString " ") (l.map (txt d)) ++ Str.ofString ")"
    | .tm u k => txt d u ++ Str.ofString "*" ++ iS k
    | .un u => Str.ofString "~" ++ txt d u
theorem join_le {sep : Str} (h1 : sep.length = 1) : ∀ ts : List Str, (Str.join sep ts).length ≤ (ts.map fun t => t.length + 1).sum
  | [] => by
    show (Str.ofString "").length ≤ 0
    decide +kernel
  | [t] => by
    show t.length ≤ (t.length + 1) + 0
    omega
  | t :: u :: ts => by
    have ih := join_le h1 (u :: ts)
    show (t ++ sep ++ Str.join sep (u :: ts)).length ≤ (t.length + 1) + ((u :: ts).map fun t => t.length + 1).sum
    rw [strLen_append, strLen_append]
    omega
theorem sum_le {α : Type} {f h : α → Nat} {k : Nat} : ∀ (l : List α), (∀ u ∈ l, f u ≤ k * h u) → (l.map f).sum ≤ k * (l.map h).sum
  | [], _ => Nat.le_refl _
  | u :: l, p => by
    have a := p u List.mem_cons_self
    have b := sum_le l fun x hx => p x (List.mem_cons_of_mem _ hx)
    show f u + (l.map f).sum ≤ k * (h u + (l.map h).sum)
    rw [Nat.mul_add]
    omega
theorem mem_sum {α : Type} {f : α → Nat} {u : α} : ∀ {l : List α}, u ∈ l → f u ≤ (l.map f).sum
  | x :: l, h => by
    show f u ≤ f x + (l.map f).sum
    rcases List.mem_cons.mp h with rfl | h
    · omega
    · have := mem_sum (f := f) h
      omega
theorem sp_one : (Str.ofString " ").length = 1 := by decide +kernel
theorem iS_big {k : Int} (h0 : 0 ≤ k) (h1 : k ≤ 10 ^ 30) : (iS k).length ≤ 31 := iS_len h0 (by decide) (by omega)
theorem log_big {k : Int} (h0 : 0 ≤ k) (h1 : k ≤ 10 ^ 30) : k.natAbs.log2 < 1920 := by
  by_cases h : k.natAbs = 0
  · rw [h]; decide
  · refine (Nat.log2_lt h).mpr (Nat.lt_of_le_of_lt (show k.natAbs ≤ 10 ^ 30 by omega) ?_)
    refine Nat.lt_of_lt_of_le (show 10 ^ 30 < 2 ^ 100 by decide) (Nat.pow_le_pow_right (by decide) (by decide))
theorem txt_len {n fl : Int} (n24 : n ≤ 24) : ∀ (d : Nat) (s : Sy d), Good n fl d s → (txt d s).length + 2 ≤ 50 * nod d s
  | 0, s, _ => nomatch (show Empty from s)
  | d + 1, s, g => by
    match (show SyF (Sy d) from s), (show Good n fl (d + 1) (show SyF (Sy d) from s) from g) with
    | .ch t m, g =>
      show (lT t ++ iS m).length + 2 ≤ 50 * 1
      have a := lT_len t
      have b := (iS_at ⟨g.1, Int.lt_of_lt_of_le g.2 n24⟩).1
      rw [strLen_append]
      omega
    | .row l, g =>
      show (Str.ofString "(" ++ Str.join (Str.ofString " ") (l.map (txt d)) ++ Str.ofString ")").length + 2 ≤ 50 * (1 + (l.map (nod d)).sum)
      have a := join_le sp_one (l.map (txt d))
      rw [List.map_map] at a
      have b := sum_le (f := (fun t => t.length + 1) ∘ txt d) (h := nod d) (k := 50) l fun u hu => by
        have := txt_len n24 d u (g.2 u hu)
        show (txt d u).length + 1 ≤ 50 * nod d u
        omega
      have o1 : (Str.ofString "(").length = 1 := by decide +kernel
      have o2 : (Str.ofString ")").length = 1 := by decide +kernel
      rw [strLen_append, strLen_append]
      omega
    | .tm u k, g =>
      show (txt d u ++ Str.ofString "*" ++ iS k).length + 2 ≤ 50 * (1 + nod d u)
      have a := txt_len n24 d u g.2.2.1
      have b := iS_big g.1 g.2.1
      have o1 : (Str.ofString "*").length = 1 := by decide +kernel
      rw [strLen_append, strLen_append]
      omega
    | .un u, g =>
      show (Str.ofString "~" ++ txt d u).length + 2 ≤ 50 * (1 + nod d u)
      have a := txt_len n24 d u g.1
      have o1 : (Str.ofString "~").length = 1 := by decide +kernel
      rw [strLen_append]
      omega
theorem fit_big {k : Nat} (h : k ≤ 1000000) : k ≤ sizeLine := Nat.le_trans h (by decide)
theorem row_join {n fl : Int} (n24 : n ≤ 24) {d : Nat} {l : List (Sy d)} (hl : l.length ≤ 60) (hg : ∀ u ∈ l, Good n fl d u) (hn : ∀ u ∈ l, nod d u ≤ 3280) : JoinOk (Str.ofString " ") (l.map (txt d)) = true := by
  refine join_ok (B := 164000) (fun y hy => ?_) ?_
  · obtain ⟨u, hu, rfl⟩ := List.mem_map.mp hy
    have := txt_len n24 d u (hg u hu)
    have := hn u hu
    omega
  · rw [List.length_map, sp_one]
    omega
theorem prd_zip {α : Type} {R : V → α → Prop} {us : List V} {l : List α} (pr : Paired R us l) : ∃ bs : List (V × α), bs.map (·.1) = us ∧ bs.map (·.2) = l ∧ ∀ b ∈ bs, R b.1 b.2 := by
  induction pr with
  | nil => exact ⟨[], rfl, rfl, fun b hb => by cases hb⟩
  | cons r _ ih =>
    obtain ⟨bs, h1, h2, h3⟩ := ih
    refine ⟨(_, _) :: bs, by rw [List.map_cons, h1], by rw [List.map_cons, h2], fun b hb => ?_⟩
    rcases List.mem_cons.mp hb with rfl | hb
    · exact r
    · exact h3 b hb
theorem say_head {H : Hp} : ∀ {d : Nat} {v : V} {s : Sy d}, SayR H d v s → ∃ (p : Addr) (x : Str) (xs : List V), v = .ref p ∧ H p = some (.tup (V.str x :: xs)) ∧ (decide (V.str x = V.str (Str.ofString "times")) = true ↔ isTm d s)
  | 0, _, _, h => h.elim
  | d + 1, v, s, h => by
    match (show SyF (Sy d) from s), (show SayF H (SayR H d) v (show SyF (Sy d) from s) from h) with
    | .ch _ _, ⟨p, q, e, h1, _⟩ => exact ⟨p, _, _, e, h1, ⟨fun z => absurd z (by decide +kernel), fun z => z.elim⟩⟩
    | .row _, ⟨p, q, _, e, h1, _⟩ => exact ⟨p, _, _, e, h1, ⟨fun z => absurd z (by decide +kernel), fun z => z.elim⟩⟩
    | .tm _ _, ⟨p, w, e, h1, _⟩ => exact ⟨p, _, _, e, h1, ⟨fun _ => True.intro, fun _ => decide_eq_true rfl⟩⟩
    | .un _, ⟨p, w, e, h1, _⟩ => exact ⟨p, _, _, e, h1, ⟨fun z => absurd z (by decide +kernel), fun z => z.elim⟩⟩

theorem atI_nat {α : Type} {xs : List α} {k : Nat} {c : α} (h : xs[k]? = some c) : atI xs (k : Int) = some c := by
  have hl := (List.getElem?_eq_some_iff.mp h).1
  unfold atI ixN
  rw [if_pos (by omega), if_pos (by omega)]
  simpa using h
/-- how many figures stand at the head -/
def nfig (cs : List Nat) : Nat := (cs.takeWhile isFig).length
theorem nfig_cons (c : Nat) (cs : List Nat) : nfig (c :: cs) = if isFig c = true then nfig cs + 1 else 0 := by
  unfold nfig
  rw [List.takeWhile_cons]
  split <;> simp
theorem nfig_le : ∀ cs : List Nat, nfig cs ≤ cs.length
  | [] => Nat.le_refl _
  | c :: cs => by
    rw [nfig_cons]
    have := nfig_le cs
    split <;> simp only [List.length_cons] <;> omega
theorem nfig_at : ∀ (cs : List Nat) (j : Nat), j < nfig cs → ∃ c, cs[j]? = some c ∧ isFig c = true
  | [], j, h => absurd h (Nat.not_lt_zero j)
  | c :: cs, 0, h => by
    rw [nfig_cons] at h
    split at h
    · exact ⟨c, rfl, by assumption⟩
    · exact absurd h (Nat.not_lt_zero 0)
  | c :: cs, j + 1, h => by
    rw [nfig_cons] at h
    split at h
    · obtain ⟨d, e, f⟩ := nfig_at cs j (by omega)
      exact ⟨d, by simpa using e, f⟩
    · exact absurd h (Nat.not_lt_zero _)
theorem nfig_end : ∀ (cs : List Nat) (c : Nat), cs[nfig cs]? = some c → isFig c = false
  | [], c, h => by simp at h
  | d :: cs, c, h => by
    rw [nfig_cons] at h
    split at h
    · exact nfig_end cs c (by simpa using h)
    · have : d = c := by simpa using h
      rw [← this]
      simpa using (by assumption : ¬ isFig d = true)
theorem starts_one (t : Str) (c : Nat) : Txt.startswith t ⟨#[c]⟩ = decide (t.cps.toList.head? = some c) := by
  rcases t with ⟨⟨l⟩⟩
  cases l with
  | nil => rfl
  | cons a l =>
    unfold Txt.startswith Builtin.Str.subAt
    have e1 : (Str.length ⟨#[c]⟩) = 1 := rfl
    have e2 : (Str.length ⟨⟨a :: l⟩⟩) = l.length + 1 := rfl
    rw [e1, e2]
    simp
    exact Bool.beq_eq_decide_eq a c

def eof (t : Str) (p : Nat) : Nat := p + nfig (t.cps.toList.drop p)
/-- the change that a text writes -/
def chF (n : Int) (w : Str) : Option (Bool × Int) := match numT n (cutS w (some 1) none) with
  | none => none
  | some m => if Txt.startswith w "t" = true then some (true, m) else if Txt.startswith w "m" = true then some (false, m) else none
theorem chF_iff {n : Int} {w : Str} {b : Bool} {m : Int} : RdH n w b m ↔ chF n w = some (b, m) := by
  unfold RdH chF
  cases h : numT n (cutS w (some 1) none) with
  | none => simp
  | some k =>
    cases ht : Txt.startswith w "t" <;> cases hm : Txt.startswith w "m" <;> cases b <;> simp
/-- how many times a text of figures says -/
def manyF (f : Str) : Option Int :=
  if f.cps.toList = [] ∨ (f.cps.toList.head? = some 48 ∧ f.cps.toList ≠ [48]) then none
  else if 31 < f.length then none
  else if (10 : Int) ^ 30 < (NumText.digitsVal f.cps.toList : Int) then none
  else some (NumText.digitsVal f.cps.toList : Int)
theorem prd_mapR {α β : Type} {R : V → α → Prop} {S : V → β → Prop} {f : α → β} (h : ∀ x y, R x y → S x (f y)) : ∀ {us : List V} {l : List α}, Paired R us l → Paired S us (l.map f)
  | _, _, .nil => .nil
  | _, _, .cons r p => .cons (h _ _ r) (prd_mapR h p)
def up : (d : Nat) → Sy d → Sy (d + 1)
  | 0, s => nomatch (show Empty from s)
  | d + 1, s => match (show SyF (Sy d) from s) with
    | .ch t m => (SyF.ch t m : SyF (Sy (d + 1)))
    | .row l => (SyF.row (l.map (up d)) : SyF (Sy (d + 1)))
    | .tm u k => (SyF.tm (up d u) k : SyF (Sy (d + 1)))
    | .un u => (SyF.un (up d u) : SyF (Sy (d + 1)))
theorem up_say {H : Hp} : ∀ (d : Nat) (v : V) (s : Sy d), SayR H d v s → SayR H (d + 1) v (up d s)
  | 0, _, s, _ => nomatch (show Empty from s)
  | d + 1, v, s, h => by
    match (show SyF (Sy d) from s), (show SayF H (SayR H d) v (show SyF (Sy d) from s) from h) with
    | .ch t m, h => exact h
    | .row l, ⟨p, q, us, e, h1, h2, pr⟩ =>
      exact ⟨p, q, us, e, h1, h2, prd_mapR (fun x y r => up_say d x y r) pr⟩
    | .tm u k, ⟨p, w, e, h1, r⟩ => exact ⟨p, w, e, h1, up_say d _ _ r⟩
    | .un u, ⟨p, w, e, h1, r⟩ => exact ⟨p, w, e, h1, up_say d _ _ r⟩
def dw : Nat → Nat
  | 0 => 0
  | r + 1 => dw r + 1 + 1
def whF (t : Str) {e : Nat} (f : Nat → Option (Sy e × Nat)) (p : Nat) : Option (Sy (e + 1) × Nat) :=
  match f p with
  | none => none
  | some x =>
    if Txt.startswith3 t "*" (x.2 : Int) = true then
      match manyF (cutS t (some ((x.2 + 1 : Nat) : Int)) (some ((eof t (x.2 + 1) : Nat) : Int))) with
      | none => none
      | some m => some ((SyF.tm x.1 m : SyF (Sy e)), eof t (x.2 + 1))
    else some (up e x.1, x.2)
def rowL (t : Str) {α : Type} (f : Nat → Option (α × Nat)) : Nat → Nat → Option (List α × Nat)
  | 0, _ => none
  | k + 1, p => match f p with
    | none => none
    | some x =>
      if Txt.startswith3 t " " (x.2 : Int) = true then
        match rowL t f k (x.2 + 1) with
        | none => none
        | some y => some (x.1 :: y.1, y.2)
      else some ([x.1], x.2)
def rowF (t : Str) {α : Type} (f : Nat → Option (α × Nat)) (p : Nat) : Option (List α × Nat) :=
  if Txt.startswith3 t ")" (p : Int) = true then some ([], p + 1)
  else match rowL t f (t.length + 1) p with
    | none => none
    | some y => if Txt.startswith3 t ")" (y.2 : Int) = true then some (y.1, y.2 + 1) else none
def wnF (n : Int) (t : Str) : (r : Nat) → Nat → Option (Sy (dw r) × Nat)
  | 0, _ => none
  | r + 1, p =>
    if Txt.startswith3 t "~" (p : Int) = true then
      match wnF n t r (p + 1) with
      | none => none
      | some x => some ((SyF.un (up (dw r) x.1) : SyF (Sy (dw r + 1))), x.2)
    else if Txt.startswith3 t "(" (p : Int) = true then
      match rowF t (whF t (wnF n t r)) (p + 1) with
      | none => none
      | some x => some ((SyF.row x.1 : SyF (Sy (dw r + 1))), x.2)
    else
      match chF n (cutS t (some (p : Int)) (some ((eof t (p + 1) : Nat) : Int))) with
      | none => none
      | some c => some ((SyF.ch c.1 c.2 : SyF (Sy (dw r + 1))), eof t (p + 1))
theorem eof_le (t : Str) (p : Nat) : p ≤ eof t p := Nat.le_add_right _ _
theorem whF_mono {t : Str} {e : Nat} {f : Nat → Option (Sy e × Nat)} (hf : ∀ p x, f p = some x → p ≤ x.2) {p : Nat} {x : Sy (e + 1) × Nat} (h : whF t f p = some x) : p ≤ x.2 := by
  unfold whF at h
  split at h
  · cases h
  · next y hy =>
    have := hf p y hy
    split at h
    · split at h
      · cases h
      · have := eof_le t (y.2 + 1)
        cases h
        show p ≤ eof t (y.2 + 1)
        omega
    · cases h
      exact this
theorem rowL_mono {t : Str} {α : Type} {f : Nat → Option (α × Nat)} (hf : ∀ p x, f p = some x → p ≤ x.2) : ∀ (k p : Nat) (x : List α × Nat), rowL t f k p = some x → p ≤ x.2
  | 0, _, _, h => by cases h
  | k + 1, p, x, h => by
    unfold rowL at h
    split at h
    · cases h
    · next y hy =>
      have := hf p y hy
      split at h
      · split at h
        · cases h
        · next z hz =>
          have := rowL_mono hf k _ z hz
          cases h
          show p ≤ z.2
          omega
      · cases h
        exact this
theorem rowF_mono {t : Str} {α : Type} {f : Nat → Option (α × Nat)} (hf : ∀ p x, f p = some x → p ≤ x.2) {p : Nat} {x : List α × Nat} (h : rowF t f p = some x) : p ≤ x.2 := by
  unfold rowF at h
  split at h
  · cases h
    exact Nat.le_succ p
  · split at h
    · cases h
    · next y hy =>
      have := rowL_mono hf _ _ y hy
      split at h
      · cases h
        show p ≤ y.2 + 1
        omega
      · cases h
theorem wnF_mono {n : Int} {t : Str} : ∀ (r p : Nat) (x : Sy (dw r) × Nat), wnF n t r p = some x → p ≤ x.2
  | 0, _, _, h => by cases h
  | r + 1, p, x, h => by
    unfold wnF at h
    split at h
    · split at h
      · cases h
      · next y hy =>
        have := wnF_mono r _ y hy
        cases h
        show p ≤ y.2
        omega
    · split at h
      · split at h
        · cases h
        · next y hy =>
          have := rowF_mono (fun p x hx => whF_mono (fun p x hx => wnF_mono r p x hx) hx) hy
          cases h
          show p ≤ y.2
          omega
      · split at h
        · cases h
        · have := eof_le t (p + 1)
          cases h
          show p ≤ eof t (p + 1)
          omega

def rowC (t : Str) {α : Type} (f : Nat → Option (α × Nat)) (k q : Nat) : Option (List α × Nat) := if Txt.startswith3 t " " (q : Int) = true then rowL t f k (q + 1) else some ([], q)
theorem rowL_some {t : Str} {α : Type} {f : Nat → Option (α × Nat)} {k p : Nat} {x : α × Nat} (h : f p = some x) : rowL t f (k + 1) p = (rowC t f k x.2).map fun y => (x.1 :: y.1, y.2) := by
  show (match f p with | none => none | some x => if Txt.startswith3 t " " (x.2 : Int) = true then (match rowL t f k (x.2 + 1) with | none => none | some y => some (x.1 :: y.1, y.2)) else some ([x.1], x.2)) = _
  rw [h]
  unfold rowC
  dsimp only
  split
  · cases rowL t f k (x.2 + 1) <;> rfl
  · rfl
theorem rowL_none {t : Str} {α : Type} {f : Nat → Option (α × Nat)} {k p : Nat} (h : f p = none) : rowL t f (k + 1) p = none := by
  show (match f p with | none => none | some x => if Txt.startswith3 t " " (x.2 : Int) = true then (match rowL t f k (x.2 + 1) with | none => none | some y => some (x.1 :: y.1, y.2)) else some ([x.1], x.2)) = _
  rw [h]
theorem rowF_none {t : Str} {α : Type} {f : Nat → Option (α × Nat)} {p : Nat} (hs : Txt.startswith3 t ")" (p : Int) = false) (h : rowL t f (t.length + 1) p = none) : rowF t f p = none := by
  unfold rowF
  rw [if_neg (by rw [hs]; exact Bool.false_ne_true), h]
theorem rowF_some {t : Str} {α : Type} {f : Nat → Option (α × Nat)} {p : Nat} {y : List α × Nat} (hs : Txt.startswith3 t ")" (p : Int) = false) (h : rowL t f (t.length + 1) p = some y) : rowF t f p = if Txt.startswith3 t ")" (y.2 : Int) = true then some (y.1, y.2 + 1) else none := by
  unfold rowF
  rw [if_neg (by rw [hs]; exact Bool.false_ne_true), h]
theorem starts3_lt {t : Str} {c q : Nat} (h : Txt.startswith3 t ⟨#[c]⟩ (q : Int) = true) : q < t.length := by
  unfold Txt.startswith3 at h
  have h := (Bool.and_eq_true_iff.mp h).1
  have h : fromIndex t.length (q : Int) + 1 ≤ t.length := of_decide_eq_true h
  unfold fromIndex at h
  rw [if_neg (by omega)] at h
  omega
theorem s_blank : (Str.ofString " ") = ⟨#[32]⟩ := by decide +kernel
theorem cut_nat (t : Str) {p q : Nat} (h : p ≤ q) : cutS t (some (p : Int)) (some (q : Int)) = ⟨((t.cps.toList.drop p).take (q - p)).toArray⟩ := by
  unfold cutS
  have tl : t.cps.toList.length = t.length := by simp [Str.length]
  have e1 : HT.sIx t.length 0 (some (p : Int)) = min p t.length := by
    simp only [HT.sIx]
    split <;> omega
  have e2 : HT.sIx t.length t.length (some (q : Int)) = min q t.length := by
    simp only [HT.sIx]
    split <;> omega
  rw [e1, e2]
  congr 2
  by_cases hp : p ≤ t.length
  · rw [Nat.min_eq_left hp]
    by_cases hq : q ≤ t.length
    · rw [Nat.min_eq_left hq]
    · rw [Nat.min_eq_right (by omega), List.take_of_length_le (by rw [List.length_drop]; omega), List.take_of_length_le (by rw [List.length_drop]; omega)]
  · rw [Nat.min_eq_right (by omega), List.drop_eq_nil_of_le (by omega), List.drop_eq_nil_of_le (by omega), List.take_nil, List.take_nil]
theorem cut_figs (t : Str) (p : Nat) : ∀ c ∈ (cutS t (some (p : Int)) (some ((eof t p : Nat) : Int))).cps.toList, isFig c = true := by
  rw [cut_nat t (eof_le t p)]
  intro c hc
  have hc : c ∈ (t.cps.toList.drop p).take (eof t p - p) := hc
  obtain ⟨j, hj⟩ := List.getElem?_of_mem hc
  rw [List.getElem?_take] at hj
  split at hj
  · next hlt =>
    have : j < nfig (t.cps.toList.drop p) := by
      unfold eof at hlt
      omega
    obtain ⟨d, hd, f⟩ := nfig_at _ _ this
    rw [hd] at hj
    cases hj
    exact f
  · cases hj

theorem cut_sg {t : Str} (h : Sg t) (lo hi : Option Int) : Sg (cutS t lo hi) := fun c hc => h c (List.mem_of_mem_drop (List.mem_of_mem_take (show c ∈ (t.cps.toList.drop _).take _ from hc)))

/-- the sayings straight within -/
def kids {α : Type} : SyF α → List α
  | .ch _ _ => []
  | .row l => l
  | .tm u _ => [u]
  | .un u => [u]
theorem nod_kids {d : Nat} (s : SyF (Sy d)) : nod (d + 1) s = 1 + ((kids s).map (nod d)).sum := by
  cases s <;> rfl

def maxL : List Nat → Nat
  | [] => 0
  | x :: l => max x (maxL l)
theorem maxL_ge {x : Nat} : ∀ {l : List Nat}, x ∈ l → x ≤ maxL l
  | y :: l, h => by
    show x ≤ max y (maxL l)
    rcases List.mem_cons.mp h with rfl | h
    · exact Nat.le_max_left _ _
    · exact Nat.le_trans (maxL_ge h) (Nat.le_max_right _ _)
theorem maxL_mem : ∀ {l : List Nat}, l ≠ [] → maxL l ∈ l
  | [], h => absurd rfl h
  | [x], _ => by
    show max x 0 ∈ [x]
    rw [Nat.max_zero]
    exact List.mem_cons_self
  | x :: y :: l, _ => by
    show max x (maxL (y :: l)) ∈ x :: y :: l
    rcases Nat.le_total x (maxL (y :: l)) with h | h
    · rw [Nat.max_eq_right h]
      exact List.mem_cons_of_mem _ (maxL_mem (by simp))
    · rw [Nat.max_eq_left h]
      exact List.mem_cons_self
/-- how many within one another -/
def dep : (d : Nat) → Sy d → Nat
  | 0, _ => 0
  | d + 1, s => 1 + maxL ((kids (show SyF (Sy d) from s)).map (dep d))
theorem kids_len {g : Nat} (bs : List (V × Sy g)) : bs.length ≤ ((bs.map (·.2)).map (nod g)).sum := by
  cases g with
  | zero => cases bs with
    | nil => exact Nat.le_refl _
    | cons b bs => exact nomatch (show Empty from b.2)
  | succ g =>
    induction bs with
    | nil => exact Nat.le_refl _
    | cons b bs ih =>
      have : 1 ≤ nod (g + 1) b.2 := Nat.le_trans (Nat.le_add_right 1 _) (Nat.le_of_eq (nod_kids (show SyF (Sy g) from b.2)).symm)
      show bs.length + 1 ≤ nod (g + 1) b.2 + ((bs.map (·.2)).map (nod (g + 1))).sum
      omega

theorem st3 (t : Str) (c p : Nat) : Txt.startswith3 t ⟨#[c]⟩ (p : Int) = decide ((t.cps.toList.drop p).head? = some c) := by
  have hf : fromIndex t.length (p : Int) = p := by
    unfold fromIndex
    rw [if_neg (by omega)]
    omega
  have tl : t.cps.toList.length = t.length := by simp [Str.length]
  rw [Bool.eq_iff_iff, decide_eq_true_eq]
  unfold Txt.startswith3
  rw [hf, Bool.and_eq_true, decide_eq_true_eq]
  show p + 1 ≤ t.length ∧ (t.cps.extract p (p + 1) == #[c]) = true ↔ _
  rw [beq_iff_eq, ← Array.toList_inj, Array.toList_extract, List.extract_eq_take_drop, show p + 1 - p = 1 by omega, List.head?_drop]
  constructor
  · rintro ⟨h1, h2⟩
    obtain ⟨x, hx⟩ : ∃ x, t.cps.toList[p]? = some x := ⟨_, List.getElem?_eq_getElem (by omega)⟩
    rw [hx]
    have := congrArg List.head? h2
    rw [List.head?_take, if_neg (by decide), List.head?_drop, hx] at this
    exact this
  · intro h
    have hl := (List.getElem?_eq_some_iff.mp h).1
    refine ⟨by omega, ?_⟩
    rw [← List.head?_drop] at h
    cases hd : t.cps.toList.drop p with
    | nil => rw [hd] at h; cases h
    | cons x xs =>
      rw [hd] at h
      have : x = c := by simpa using h
      rw [this]
      rfl
theorem s_til : (Str.ofString "~") = ⟨#[126]⟩ := by decide +kernel
theorem s_opn : (Str.ofString "(") = ⟨#[40]⟩ := by decide +kernel
theorem s_shut : (Str.ofString ")") = ⟨#[41]⟩ := by decide +kernel
theorem s_star : (Str.ofString "*") = ⟨#[42]⟩ := by decide +kernel
/-- no figure at the head -/
def NoF (r : List Nat) : Prop := ∀ c, r.head? = some c → isFig c = false
theorem nfig_nof : ∀ {r : List Nat}, NoF r → nfig r = 0
  | [], _ => rfl
  | c :: r, h => by
    rw [nfig_cons, if_neg]
    rw [h c rfl]
    exact Bool.false_ne_true
theorem nfig_app : ∀ (a : List Nat) {r : List Nat}, (∀ c ∈ a, isFig c = true) → NoF r → nfig (a ++ r) = a.length
  | [], _, _, h => nfig_nof h
  | c :: a, r, ha, h => by
    rw [List.cons_append, nfig_cons, if_pos (ha c List.mem_cons_self), nfig_app a (fun x hx => ha x (List.mem_cons_of_mem _ hx)) h]
    rfl
theorem dig_char : ∀ d : Nat, d < 10 → (Nat.digitChar d).toNat = 48 + d := by decide
theorem dig_head (m : Nat) : (Nat.toDigits 10 m).map Char.toNat = [48] ∨ ∃ c cs, (Nat.toDigits 10 m).map Char.toNat = c :: cs ∧ c ≠ 48 := by
  induction m using Nat.strongRecOn with
  | _ m ih =>
    by_cases h : m < 10
    · rw [Nat.toDigits_of_lt_base h]
      have e := dig_char m h
      by_cases h0 : m = 0
      · subst h0
        exact .inl rfl
      · exact .inr ⟨_, [], rfl, by omega⟩
    · right
      have hm : m % 10 < 10 := Nat.mod_lt m (by decide)
      have t : Nat.toDigits 10 (m / 10) ++ Nat.toDigits 10 (m % 10) = Nat.toDigits 10 (10 * (m / 10) + m % 10) := Nat.toDigits_append_toDigits (by decide) (by omega) hm
      rw [Nat.div_add_mod] at t
      have v := W.KIN.val_back (m / 10)
      rw [← t, List.map_append]
      rcases ih (m / 10) (by omega) with z | ⟨c, cs, z, hc⟩
      · rw [z] at v
        have v : 0 = m / 10 := v
        omega
      · rw [z]
        exact ⟨c, _, rfl, hc⟩
theorem dig_all (m : Nat) : ∀ c ∈ (Nat.toDigits 10 m).map Char.toNat, isFig c = true := by
  induction m using Nat.strongRecOn with
  | _ m ih =>
    by_cases h : m < 10
    · rw [Nat.toDigits_of_lt_base h]
      have e := dig_char m h
      intro c hc
      have : c = (Nat.digitChar m).toNat := by simpa using hc
      unfold isFig
      exact decide_eq_true (by omega)
    · have hm : m % 10 < 10 := Nat.mod_lt m (by decide)
      have t : Nat.toDigits 10 (m / 10) ++ Nat.toDigits 10 (m % 10) = Nat.toDigits 10 (10 * (m / 10) + m % 10) := Nat.toDigits_append_toDigits (by decide) (by omega) hm
      rw [Nat.div_add_mod] at t
      rw [← t, List.map_append]
      intro c hc
      rcases List.mem_append.mp hc with hc | hc
      · exact ih (m / 10) (by omega) c hc
      · exact ih (m % 10) (by omega) c hc
theorem iS_figs {k : Int} (h0 : 0 ≤ k) : ∀ c ∈ (iS k).cps.toList, isFig c = true := by
  obtain ⟨m, rfl⟩ := Int.eq_ofNat_of_zero_le h0
  show ∀ c ∈ (Str.ofString (toString ((m : Nat) : Int))).cps.toList, isFig c = true
  rw [W.KIN.signs_num]
  exact dig_all m
theorem iS_val {k : Int} (h0 : 0 ≤ k) : ((NumText.digitsVal (iS k).cps.toList : Nat) : Int) = k := by
  obtain ⟨m, rfl⟩ := Int.eq_ofNat_of_zero_le h0
  show ((NumText.digitsVal (Str.ofString (toString ((m : Nat) : Int))).cps.toList : Nat) : Int) = (m : Int)
  rw [W.KIN.signs_num, W.KIN.val_back]
theorem iS_lead {k : Int} (h0 : 0 ≤ k) : ¬ ((iS k).cps.toList = [] ∨ ((iS k).cps.toList.head? = some 48 ∧ (iS k).cps.toList ≠ [48])) := by
  obtain ⟨m, rfl⟩ := Int.eq_ofNat_of_zero_le h0
  show ¬ ((Str.ofString (toString ((m : Nat) : Int))).cps.toList = [] ∨ ((Str.ofString (toString ((m : Nat) : Int))).cps.toList.head? = some 48 ∧ (Str.ofString (toString ((m : Nat) : Int))).cps.toList ≠ [48]))
  rw [W.KIN.signs_num]
  rcases dig_head m with z | ⟨c, cs, z, hc⟩
  · rw [z]
    rintro (h | h)
    · cases h
    · exact h.2 rfl
  · rw [z]
    rintro (h | h)
    · cases h
    · exact hc (by simpa using h.1)
theorem many_ok {k : Int} (h0 : 0 ≤ k) (h1 : k ≤ 10 ^ 30) : manyF (iS k) = some k := by
  unfold manyF
  have l := iS_big h0 h1
  rw [if_neg (iS_lead h0), if_neg (by omega), iS_val h0, if_neg (by omega)]
theorem ch_ok {n : Int} (n24 : n ≤ 24) (b : Bool) {m : Int} (h0 : 0 ≤ m) (h1 : m < n) : chF n (chT b m) = some (b, m) := by
  obtain ⟨e1, e2, e3, _⟩ := chT_at b (x := m) ⟨h0, by omega⟩
  unfold chF
  rw [e1, (numT_some n24).mpr ⟨⟨h0, h1⟩, rfl⟩]
  dsimp only
  rw [e2, e3]
  cases b <;> rfl
theorem str_of_list (x : Str) : (⟨x.cps.toList.toArray⟩ : Str) = x := by
  rcases x with ⟨c⟩
  simp
theorem len_list (x : Str) : x.cps.toList.length = x.length := by simp [Str.length]
/-- figures read where they stand -/
theorem eof_ok {t a : Str} {p : Nat} {r : List Nat} (h : t.cps.toList.drop p = a.cps.toList ++ r) (ha : ∀ c ∈ a.cps.toList, isFig c = true) (hr : NoF r) : eof t p = p + a.length := by
  unfold eof
  rw [h, nfig_app _ ha hr, len_list]
theorem cut_ok {t a : Str} {p : Nat} {r : List Nat} (h : t.cps.toList.drop p = a.cps.toList ++ r) : cutS t (some (p : Int)) (some ((p + a.length : Nat) : Int)) = a := by
  rw [cut_nat t (Nat.le_add_right _ _), h, show p + a.length - p = a.cps.toList.length by rw [len_list]; omega, List.take_left', str_of_list]
  rfl
theorem drop_more {t : Str} {p : Nat} {a r : List Nat} (h : t.cps.toList.drop p = a ++ r) : t.cps.toList.drop (p + a.length) = r := by
  rw [← List.drop_drop, h, List.drop_left]
/-- a saying among the deeper ones -/
def emb : (g e : Nat) → g ≤ e → Sy g → Sy e
  | 0, _, _, s => nomatch (show Empty from s)
  | g + 1, 0, h, _ => absurd h (by omega)
  | g + 1, e + 1, h, s => match (show SyF (Sy g) from s) with
    | .ch t m => (SyF.ch t m : SyF (Sy e))
    | .row l => (SyF.row (l.map (emb g e (by omega))) : SyF (Sy e))
    | .tm u k => (SyF.tm (emb g e (by omega) u) k : SyF (Sy e))
    | .un u => (SyF.un (emb g e (by omega) u) : SyF (Sy e))
theorem up_emb : ∀ (g e : Nat) (h : g ≤ e) (s : Sy g), up e (emb g e h s) = emb g (e + 1) (by omega) s
  | 0, _, _, s => nomatch (show Empty from s)
  | g + 1, 0, h, _ => absurd h (by omega)
  | g + 1, e + 1, h, s => by
    match (show SyF (Sy g) from s) with
    | .ch t m => rfl
    | .row l =>
      show (SyF.row ((l.map (emb g e (by omega))).map (up e)) : SyF (Sy (e + 1))) = SyF.row (l.map (emb g (e + 1) (by omega)))
      rw [List.map_map]
      congr 1
      exact List.map_congr_left fun u _ => up_emb g e (by omega) u
    | .tm u k =>
      show (SyF.tm (up e (emb g e (by omega) u)) k : SyF (Sy (e + 1))) = SyF.tm (emb g (e + 1) (by omega) u) k
      rw [up_emb g e (by omega) u]
    | .un u =>
      show (SyF.un (up e (emb g e (by omega) u)) : SyF (Sy (e + 1))) = SyF.un (emb g (e + 1) (by omega) u)
      rw [up_emb g e (by omega) u]
theorem nod_emb : ∀ (g e : Nat) (h : g ≤ e) (s : Sy g), nod e (emb g e h s) = nod g s
  | 0, _, _, s => nomatch (show Empty from s)
  | g + 1, 0, h, _ => absurd h (by omega)
  | g + 1, e + 1, h, s => by
    match (show SyF (Sy g) from s) with
    | .ch t m => rfl
    | .row l =>
      show 1 + ((l.map (emb g e (by omega))).map (nod e)).sum = 1 + (l.map (nod g)).sum
      rw [List.map_map]
      congr 2
      exact List.map_congr_left fun u _ => nod_emb g e (by omega) u
    | .tm u k =>
      show 1 + nod e (emb g e (by omega) u) = 1 + nod g u
      rw [nod_emb g e (by omega) u]
    | .un u =>
      show 1 + nod e (emb g e (by omega) u) = 1 + nod g u
      rw [nod_emb g e (by omega) u]
theorem maxL_le {b : Nat} : ∀ {l : List Nat}, (∀ x ∈ l, x ≤ b) → maxL l ≤ b
  | [], _ => Nat.zero_le _
  | x :: l, h => Nat.max_le.mpr ⟨h x List.mem_cons_self, maxL_le fun y hy => h y (List.mem_cons_of_mem _ hy)⟩
theorem dep_emb : ∀ (g e : Nat) (h : g ≤ e) (s : Sy g), dep e (emb g e h s) ≤ g
  | 0, _, _, s => nomatch (show Empty from s)
  | g + 1, 0, h, _ => absurd h (by omega)
  | g + 1, e + 1, h, s => by
    have one : ∀ (l : List (Sy g)) , 1 + maxL ((l.map (emb g e (by omega))).map (dep e)) ≤ g + 1 := fun l => by
      have : maxL ((l.map (emb g e (by omega))).map (dep e)) ≤ g := maxL_le fun x hx => by
        obtain ⟨y, hy, rfl⟩ := List.mem_map.mp hx
        obtain ⟨u, _, rfl⟩ := List.mem_map.mp hy
        exact dep_emb g e (by omega) u
      omega
    match (show SyF (Sy g) from s) with
    | .ch t m => exact one []
    | .row l => exact one l
    | .tm u k => exact one [u]
    | .un u => exact one [u]
/-- the signs with which a saying begins -/
theorem txt_head {n fl : Int} : ∀ (g : Nat) (s : Sy g), Good n fl g s → ∃ c cs, (txt g s).cps.toList = c :: cs ∧ (c = 116 ∨ c = 109 ∨ c = 126 ∨ c = 40)
  | 0, s, _ => nomatch (show Empty from s)
  | g + 1, s, gs => by
    match (show SyF (Sy g) from s), (show Good n fl (g + 1) (show SyF (Sy g) from s) from gs) with
    | .ch t m, _ =>
      show ∃ c cs, (lT t ++ iS m).cps.toList = c :: cs ∧ _
      rw [app_list]
      cases t
      · exact ⟨109, _, (by rw [show lT false = ⟨#[109]⟩ by decide +kernel]; rfl), by decide⟩
      · exact ⟨116, _, (by rw [show lT true = ⟨#[116]⟩ by decide +kernel]; rfl), by decide⟩
    | .row l, _ =>
      show ∃ c cs, (Str.ofString "(" ++ Str.join (Str.ofString " ") (l.map (txt g)) ++ Str.ofString ")").cps.toList = c :: cs ∧ _
      rw [app_list, app_list, s_opn]
      exact ⟨40, _, rfl, by decide⟩
    | .tm u k, gs =>
      obtain ⟨c, cs, e, h⟩ := txt_head g u gs.2.2.1
      show ∃ c cs, (txt g u ++ Str.ofString "*" ++ iS k).cps.toList = c :: cs ∧ _
      rw [app_list, app_list, e]
      exact ⟨c, _, rfl, h⟩
    | .un u, _ =>
      show ∃ c cs, (Str.ofString "~" ++ txt g u).cps.toList = c :: cs ∧ _
      rw [app_list, s_til]
      exact ⟨126, _, rfl, by decide⟩
theorem starts_at {t : Str} {p c d : Nat} {r : List Nat} (h : t.cps.toList.drop p = d :: r) : Txt.startswith3 t ⟨#[c]⟩ (p : Int) = decide (d = c) := by
  rw [st3, h]
  show decide (some d = some c) = _
  rw [decide_eq_decide, Option.some.injEq]
theorem starts_not {t : Str} {p c : Nat} (h : (t.cps.toList.drop p).head? ≠ some c) : Txt.startswith3 t ⟨#[c]⟩ (p : Int) = false := by
  rw [st3]
  exact decide_eq_false h
/-- the readers find what is written -/
def WnOk (n : Int) (t : Str) (g : Nat) : Prop := ∀ (r : Nat) (hr : g ≤ r) (h2 : g ≤ dw r) (s : Sy g) (p : Nat) (rest : List Nat), Good n 0 g s → ¬ isTm g s → t.cps.toList.drop p = (txt g s).cps.toList ++ rest → NoF rest → wnF n t r p = some (emb g (dw r) h2 s, p + (txt g s).length)
def WhOk (n : Int) (t : Str) (g : Nat) : Prop := ∀ (r : Nat) (hr : g ≤ r) (h2 : g ≤ dw r + 1) (s : Sy g) (p : Nat) (rest : List Nat), Good n 0 g s → t.cps.toList.drop p = (txt g s).cps.toList ++ rest → NoF rest → rest.head? ≠ some 42 → whF t (wnF n t r) p = some (emb g (dw r + 1) h2 s, p + (txt g s).length)
theorem le_dw : ∀ r : Nat, r ≤ dw r
  | 0 => Nat.le_refl _
  | r + 1 => by
    have := le_dw r
    show r + 1 ≤ dw r + 1 + 1
    omega
theorem wh_bare {n : Int} {t : Str} {g : Nat} (w : WnOk n t g) {r : Nat} (hr : g ≤ r) (h2 : g ≤ dw r + 1) {s : Sy g} {p : Nat} {rest : List Nat} (gs : Good n 0 g s) (nt : ¬ isTm g s) (h : t.cps.toList.drop p = (txt g s).cps.toList ++ rest) (hf : NoF rest) (hs : rest.head? ≠ some 42) : whF t (wnF n t r) p = some (emb g (dw r + 1) h2 s, p + (txt g s).length) := by
  have := le_dw r
  have e := w r hr (by omega) s p rest gs nt h hf
  unfold whF
  rw [e]
  dsimp only
  have hd := drop_more h
  rw [len_list] at hd
  rw [show Txt.startswith3 t (Str.ofString "*") ((p + (txt g s).length : Nat) : Int) = false by
    rw [s_star]
    exact starts_not (by rw [hd]; exact hs)]
  rw [if_neg Bool.false_ne_true, up_emb]
theorem wh_times {n : Int} {t : Str} {g : Nat} (w : WnOk n t g) {r : Nat} (hr : g ≤ r) (h2 : g + 1 ≤ dw r + 1) {u : Sy g} {k : Int} {p : Nat} {rest : List Nat} (gs : Good n 0 (g + 1) (SyF.tm u k : SyF (Sy g))) (h : t.cps.toList.drop p = (txt g u ++ Str.ofString "*" ++ iS k).cps.toList ++ rest) (hf : NoF rest) : whF t (wnF n t r) p = some (emb (g + 1) (dw r + 1) h2 (SyF.tm u k : SyF (Sy g)), p + (txt g u ++ Str.ofString "*" ++ iS k).length) := by
  have gs : 0 ≤ k ∧ k ≤ 10 ^ 30 ∧ Good n 0 g u ∧ ((0 : Int) = 0 → ¬ isTm g u) := gs
  have h1 : t.cps.toList.drop p = (txt g u).cps.toList ++ (42 :: ((iS k).cps.toList ++ rest)) := by
    rw [h, app_list, app_list, s_star, List.append_assoc, List.append_assoc]
    rfl
  have e := w r hr (by omega) u p _ gs.2.2.1 (gs.2.2.2 rfl) h1 (fun c hc => by
    have : 42 = c := by simpa using hc
    rw [← this]
    decide)
  have hd := drop_more h1
  rw [len_list] at hd
  have hd2 : t.cps.toList.drop (p + (txt g u).length + 1) = (iS k).cps.toList ++ rest := by
    rw [← List.drop_drop, hd]
    rfl
  have ee := eof_ok hd2 (iS_figs gs.1) hf
  unfold whF
  rw [e]
  dsimp only
  rw [show Txt.startswith3 t (Str.ofString "*") ((p + (txt g u).length : Nat) : Int) = true by
    rw [s_star, starts_at hd]
    rfl]
  rw [if_pos rfl, ee, cut_ok hd2, many_ok gs.1 gs.2.1]
  dsimp only
  rw [strLen_append, strLen_append, s_star, show (⟨#[42]⟩ : Str).length = 1 from rfl, show p + (txt g u).length + 1 + (iS k).length = p + ((txt g u).length + 1 + (iS k).length) by omega]
  rfl
theorem wh_ok {n : Int} {t : Str} {g : Nat} (w : WnOk n t g) (w2 : ∀ g', g = g' + 1 → WnOk n t g') : WhOk n t g := by
  intro r hr h2 s p rest gs h hf hs
  cases g with
  | zero => exact nomatch (show Empty from s)
  | succ g =>
    by_cases ht : isTm (g + 1) s
    · match (show SyF (Sy g) from s), (show isTm (g + 1) (show SyF (Sy g) from s) from ht), (show Good n 0 (g + 1) (show SyF (Sy g) from s) from gs), (show t.cps.toList.drop p = (txt (g + 1) (show SyF (Sy g) from s)).cps.toList ++ rest from h) with
      | .tm u k, _, gs, h => exact wh_times (w2 g rfl) (by omega) h2 gs h hf
    · exact wh_bare w hr h2 gs ht h hf hs
theorem row_ok {t : Str} {g : Nat} {α : Type} {f : Nat → Option (α × Nat)} {em : Sy g → α} : ∀ (l : List (Sy g)) (k p : Nat) (rest : List Nat), l ≠ [] → l.length ≤ k →
    (∀ u ∈ l, ∀ (p : Nat) (rest : List Nat), t.cps.toList.drop p = (txt g u).cps.toList ++ rest → NoF rest → rest.head? ≠ some 42 → f p = some (em u, p + (txt g u).length)) →
    t.cps.toList.drop p = (Str.join (Str.ofString " ") (l.map (txt g))).cps.toList ++ (41 :: rest) → rowL t f k p = some (l.map em, p + (Str.join (Str.ofString " ") (l.map (txt g))).length)
  | [], _, _, _, h, _, _, _ => absurd rfl h
  | _ :: _, 0, _, _, _, h, _, _ => absurd h (by simp)
  | [u], k + 1, p, rest, _, _, hf, h => by
    have h : t.cps.toList.drop p = (txt g u).cps.toList ++ (41 :: rest) := h
    have e := hf u List.mem_cons_self p _ h (fun c hc => by
      have : 41 = c := by simpa using hc
      rw [← this]
      decide) (by simp)
    have hd := drop_more h
    rw [len_list] at hd
    rw [rowL_some e]
    unfold rowC
    dsimp only
    rw [show Txt.startswith3 t (Str.ofString " ") ((p + (txt g u).length : Nat) : Int) = false by
      rw [s_blank, starts_at hd]
      rfl]
    rfl
  | u :: v :: l, k + 1, p, rest, _, hk, hf, h => by
    have h1 : t.cps.toList.drop p = (txt g u).cps.toList ++ (32 :: ((Str.join (Str.ofString " ") ((v :: l).map (txt g))).cps.toList ++ (41 :: rest))) := by
      rw [h]
      show (txt g u ++ Str.ofString " " ++ Str.join (Str.ofString " ") ((v :: l).map (txt g))).cps.toList ++ (41 :: rest) = _
      rw [app_list, app_list, s_blank, List.append_assoc, List.append_assoc]
      rfl
    have e := hf u List.mem_cons_self p _ h1 (fun c hc => by
      have : 32 = c := by simpa using hc
      rw [← this]
      decide) (by simp)
    have hd := drop_more h1
    rw [len_list] at hd
    have hd2 : t.cps.toList.drop (p + (txt g u).length + 1) = (Str.join (Str.ofString " ") ((v :: l).map (txt g))).cps.toList ++ (41 :: rest) := by
      rw [← List.drop_drop, hd]
      rfl
    have ih := row_ok (v :: l) k (p + (txt g u).length + 1) rest (by simp) (by simp only [List.length_cons] at hk ⊢; omega) (fun x hx => hf x (List.mem_cons_of_mem _ hx)) hd2
    rw [rowL_some e]
    unfold rowC
    dsimp only
    rw [show Txt.startswith3 t (Str.ofString " ") ((p + (txt g u).length : Nat) : Int) = true by
      rw [s_blank, starts_at hd]
      rfl]
    rw [if_pos rfl, ih]
    show some (em u :: (v :: l).map em, p + (txt g u).length + 1 + (Str.join (Str.ofString " ") ((v :: l).map (txt g))).length) = some (em u :: (v :: l).map em, p + (txt g u ++ Str.ofString " " ++ Str.join (Str.ofString " ") ((v :: l).map (txt g))).length)
    rw [strLen_append, strLen_append, s_blank, show (⟨#[32]⟩ : Str).length = 1 from rfl, show p + (txt g u).length + 1 + (Str.join ⟨#[32]⟩ ((v :: l).map (txt g))).length = p + ((txt g u).length + 1 + (Str.join ⟨#[32]⟩ ((v :: l).map (txt g))).length) by omega]
theorem join_ge {sep : Str} (h1 : sep.length = 1) : ∀ ts : List Str, ts.length ≤ (Str.join sep ts).length + 1
  | [] => Nat.zero_le _
  | [t] => Nat.le_add_left _ _
  | t :: u :: ts => by
    have := join_ge h1 (u :: ts)
    show ts.length + 1 + 1 ≤ (t ++ sep ++ Str.join sep (u :: ts)).length + 1
    rw [strLen_append, strLen_append]
    simp only [List.length_cons] at this
    omega
theorem wn_ok {n : Int} {t : Str} (n24 : n ≤ 24) : ∀ g : Nat, WnOk n t g
  | 0 => fun _ _ _ s => nomatch (show Empty from s)
  | g + 1 => by
    intro r hr h2 s p rest gs nt h hf
    cases r with
    | zero => omega
    | succ r =>
    have ld := le_dw r
    match (show SyF (Sy g) from s), (show Good n 0 (g + 1) (show SyF (Sy g) from s) from gs), (show ¬ isTm (g + 1) (show SyF (Sy g) from s) from nt), (show t.cps.toList.drop p = (txt (g + 1) (show SyF (Sy g) from s)).cps.toList ++ rest from h) with
    | .tm _ _, _, nt, _ => exact absurd True.intro nt
    | .ch b m, gs, _, h =>
      have gs : 0 ≤ m ∧ m < n := gs
      have h : t.cps.toList.drop p = (lT b ++ iS m).cps.toList ++ rest := h
      obtain ⟨c, ec, hc⟩ : ∃ c, lT b = ⟨#[c]⟩ ∧ (c = 116 ∨ c = 109) := by
        cases b
        · exact ⟨109, by decide +kernel, by decide⟩
        · exact ⟨116, by decide +kernel, by decide⟩
      have h1 : t.cps.toList.drop p = c :: ((iS m).cps.toList ++ rest) := by
        rw [h, app_list, ec]
        rfl
      have h3 : t.cps.toList.drop (p + 1) = (iS m).cps.toList ++ rest := by
        rw [← List.drop_drop, h1]
        rfl
      have ee := eof_ok h3 (iS_figs gs.1) hf
      have l1 : (lT b ++ iS m).length = 1 + (iS m).length := by
        rw [strLen_append, ec]
        rfl
      have ee2 : eof t (p + 1) = p + (lT b ++ iS m).length := by omega
      unfold wnF
      rw [show Txt.startswith3 t (Str.ofString "~") (p : Int) = false by
        rw [s_til, starts_at h1]
        exact decide_eq_false (by omega)]
      rw [if_neg Bool.false_ne_true]
      rw [show Txt.startswith3 t (Str.ofString "(") (p : Int) = false by
        rw [s_opn, starts_at h1]
        exact decide_eq_false (by omega)]
      rw [if_neg Bool.false_ne_true, ee2, cut_ok h, show chF n (lT b ++ iS m) = some (b, m) from ch_ok n24 b gs.1 gs.2]
      rfl
    | .un u, gs, _, h =>
      have gs : Good n 0 g u ∧ ((0 : Int) = 0 → ¬ isTm g u) := gs
      have h : t.cps.toList.drop p = (Str.ofString "~" ++ txt g u).cps.toList ++ rest := h
      have h1 : t.cps.toList.drop p = 126 :: ((txt g u).cps.toList ++ rest) := by
        rw [h, app_list, s_til]
        rfl
      have h3 : t.cps.toList.drop (p + 1) = (txt g u).cps.toList ++ rest := by
        rw [← List.drop_drop, h1]
        rfl
      have e := wn_ok n24 g r (by omega) (by omega) u (p + 1) rest gs.1 (gs.2 rfl) h3 hf
      unfold wnF
      rw [show Txt.startswith3 t (Str.ofString "~") (p : Int) = true by
        rw [s_til, starts_at h1]
        rfl]
      rw [if_pos rfl, e]
      dsimp only
      rw [up_emb]
      show some ((SyF.un (emb g (dw r + 1) _ u) : SyF (Sy (dw r + 1))), p + 1 + (txt g u).length) = some ((SyF.un (emb g (dw r + 1) _ u) : SyF (Sy (dw r + 1))), p + (Str.ofString "~" ++ txt g u).length)
      rw [strLen_append, s_til, show (⟨#[126]⟩ : Str).length = 1 from rfl, Nat.add_assoc]
    | .row l, gs, _, h =>
      have gs : l.length ≤ 60 ∧ ∀ u ∈ l, Good n 0 g u := gs
      have h : t.cps.toList.drop p = (Str.ofString "(" ++ Str.join (Str.ofString " ") (l.map (txt g)) ++ Str.ofString ")").cps.toList ++ rest := h
      have h1 : t.cps.toList.drop p = 40 :: ((Str.join (Str.ofString " ") (l.map (txt g))).cps.toList ++ (41 :: rest)) := by
        rw [h, app_list, app_list, s_opn, s_shut, List.append_assoc, List.append_assoc]
        rfl
      have h3 : t.cps.toList.drop (p + 1) = (Str.join (Str.ofString " ") (l.map (txt g))).cps.toList ++ (41 :: rest) := by
        rw [← List.drop_drop, h1]
        rfl
      have tail : rowF t (whF t (wnF n t r)) (p + 1) = some (l.map (emb g (dw r + 1) (by omega)), p + (Str.ofString "(" ++ Str.join (Str.ofString " ") (l.map (txt g)) ++ Str.ofString ")").length) := by
        rw [strLen_append, strLen_append, s_opn, s_shut, show (⟨#[40]⟩ : Str).length = 1 from rfl, show (⟨#[41]⟩ : Str).length = 1 from rfl]
        cases l with
        | nil =>
          have h3 : t.cps.toList.drop (p + 1) = 41 :: rest := h3
          unfold rowF
          rw [show Txt.startswith3 t (Str.ofString ")") ((p + 1 : Nat) : Int) = true by
            rw [s_shut, starts_at h3]
            rfl]
          rw [if_pos rfl]
          rfl
        | cons v l =>
          obtain ⟨c, cs, ec, hc⟩ := txt_head g v (gs.2 v List.mem_cons_self)
          have hh : ((Str.join (Str.ofString " ") ((v :: l).map (txt g))).cps.toList ++ (41 :: rest)).head? = some c := by
            cases l with
            | nil =>
              show ((txt g v).cps.toList ++ (41 :: rest)).head? = some c
              rw [ec]
              rfl
            | cons w l =>
              show ((txt g v ++ Str.ofString " " ++ Str.join (Str.ofString " ") ((w :: l).map (txt g))).cps.toList ++ (41 :: rest)).head? = some c
              rw [app_list, app_list, ec]
              rfl
          have sh : Txt.startswith3 t (Str.ofString ")") ((p + 1 : Nat) : Int) = false := by
            rw [s_shut]
            refine starts_not ?_
            rw [h3, hh]
            intro z
            have : c = 41 := by simpa using z
            omega
          have jl := join_ge (sep := Str.ofString " ") (by decide +kernel) ((v :: l).map (txt g))
          rw [List.length_map] at jl
          have tot := congrArg List.length h3
          rw [List.length_drop, List.length_append, len_list, len_list, List.length_cons] at tot
          have ro := row_ok (f := whF t (wnF n t r)) (em := emb g (dw r + 1) (by omega)) (v :: l) (t.length + 1) (p + 1) rest (by simp) (by omega) (fun u hu p' rest' hp' hf' hs' => by
            have w := wn_ok (t := t) n24 g
            exact wh_ok w (fun g' hg' => wn_ok n24 g') r (by omega) (by omega) u p' rest' (gs.2 u hu) hp' hf' hs') h3
          rw [rowF_some sh ro]
          dsimp only
          have hd := drop_more h3
          rw [len_list] at hd
          rw [show Txt.startswith3 t (Str.ofString ")") ((p + 1 + (Str.join (Str.ofString " ") ((v :: l).map (txt g))).length : Nat) : Int) = true by
            rw [s_shut, starts_at hd]
            rfl]
          rw [if_pos rfl]
          rw [show p + 1 + (Str.join (Str.ofString " ") ((v :: l).map (txt g))).length + 1 = p + (1 + (Str.join (Str.ofString " ") ((v :: l).map (txt g))).length + 1) by omega]
      unfold wnF
      rw [show Txt.startswith3 t (Str.ofString "~") (p : Int) = false by
        rw [s_til, starts_at h1]
        rfl]
      rw [if_neg Bool.false_ne_true]
      rw [show Txt.startswith3 t (Str.ofString "(") (p : Int) = true by
        rw [s_opn, starts_at h1]
        rfl]
      rw [if_pos rfl, tail]
      rfl
termination_by g => g
decreasing_by all_goals omega
theorem nod_up : ∀ (d : Nat) (s : Sy d), nod (d + 1) (up d s) = nod d s
  | 0, s => nomatch (show Empty from s)
  | d + 1, s => by
    match (show SyF (Sy d) from s) with
    | .ch t m => rfl
    | .row l =>
      show 1 + ((l.map (up d)).map (nod (d + 1))).sum = 1 + (l.map (nod d)).sum
      rw [List.map_map]
      congr 2
      exact List.map_congr_left fun u _ => nod_up d u
    | .tm u k =>
      show 1 + nod (d + 1) (up d u) = 1 + nod d u
      rw [nod_up d u]
    | .un u =>
      show 1 + nod (d + 1) (up d u) = 1 + nod d u
      rw [nod_up d u]
theorem whF_nod {t : Str} {e : Nat} {f : Nat → Option (Sy e × Nat)} (hf : ∀ p x, f p = some x → nod e x.1 + p ≤ x.2) {p : Nat} {x : Sy (e + 1) × Nat} (h : whF t f p = some x) : nod (e + 1) x.1 + p ≤ x.2 := by
  unfold whF at h
  split at h
  · cases h
  · next y hy =>
    have a := hf p y hy
    split at h
    · split at h
      · cases h
      · have b := eof_le t (y.2 + 1)
        cases h
        show 1 + nod e y.1 + p ≤ eof t (y.2 + 1)
        omega
    · cases h
      show nod (e + 1) (up e y.1) + p ≤ y.2
      rw [nod_up]
      exact a
theorem rowL_nod {t : Str} {α : Type} {g : α → Nat} {f : Nat → Option (α × Nat)} (hf : ∀ p x, f p = some x → g x.1 + p ≤ x.2) : ∀ (k p : Nat) (x : List α × Nat), rowL t f k p = some x → (x.1.map g).sum + p ≤ x.2
  | 0, _, _, h => by cases h
  | k + 1, p, x, h => by
    unfold rowL at h
    split at h
    · cases h
    · next y hy =>
      have a := hf p y hy
      split at h
      · split at h
        · cases h
        · next z hz =>
          have b := rowL_nod hf k _ z hz
          cases h
          show g y.1 + (z.1.map g).sum + p ≤ z.2
          omega
      · cases h
        show g y.1 + 0 + p ≤ y.2
        exact a
theorem rowF_nod {t : Str} {α : Type} {g : α → Nat} {f : Nat → Option (α × Nat)} (hf : ∀ p x, f p = some x → g x.1 + p ≤ x.2) {p : Nat} {x : List α × Nat} (h : rowF t f p = some x) : (x.1.map g).sum + p + 1 ≤ x.2 := by
  unfold rowF at h
  split at h
  · cases h
    show 0 + p + 1 ≤ p + 1
    omega
  · split at h
    · cases h
    · next y hy =>
      have a := rowL_nod hf _ _ y hy
      split at h
      · cases h
        show (y.1.map g).sum + p + 1 ≤ y.2 + 1
        omega
      · cases h
theorem wnF_nod {n : Int} {t : Str} : ∀ (r p : Nat) (x : Sy (dw r) × Nat), wnF n t r p = some x → nod (dw r) x.1 + p ≤ x.2
  | 0, _, _, h => by cases h
  | r + 1, p, x, h => by
    unfold wnF at h
    split at h
    · split at h
      · cases h
      · next y hy =>
        have a := wnF_nod r _ y hy
        cases h
        show 1 + nod (dw r + 1) (up (dw r) y.1) + p ≤ y.2
        rw [nod_up]
        omega
    · split at h
      · split at h
        · cases h
        · next y hy =>
          have a := rowF_nod (g := nod (dw r + 1)) (fun p x hx => whF_nod (fun p x hx => wnF_nod r p x hx) hx) hy
          cases h
          show 1 + (y.1.map (nod (dw r + 1))).sum + p ≤ y.2
          omega
      · split at h
        · cases h
        · have := eof_le t (p + 1)
          cases h
          show 1 + p ≤ eof t (p + 1)
          omega
theorem found_nod {n : Int} {t : Str} {x : Sy (dw 8 + 1) × Nat} (h : whF t (wnF n t 8) 0 = some x) : nod (dw 8 + 1) x.1 ≤ x.2 := by
  have := whF_nod (fun p x hx => wnF_nod 8 p x hx) h
  omega
theorem found_txt {n : Int} (n24 : n ≤ 24) (s : Sy 8) (gs : Good n 0 8 s) : whF (txt 8 s) (wnF n (txt 8 s) 8) 0 = some (emb 8 (dw 8 + 1) (by decide) s, (txt 8 s).length) := by
  have := wh_ok (n := n) (t := txt 8 s) (g := 8) (wn_ok n24 8) (fun g' _ => wn_ok n24 g') 8 (Nat.le_refl _) (by decide) s 0 [] gs (by rw [List.append_nil]; rfl) (fun c hc => by cases hc) (by simp)
  rw [Nat.zero_add] at this
  exact this
theorem sg_app2 {a b : Str} (ha : Sg a) (hb : Sg b) : Sg (a ++ b) := fun c hc => by
  rw [app_list] at hc
  rcases List.mem_append.mp hc with z | z
  · exact ha c z
  · exact hb c z
theorem sg_iS {k : Int} (h : 0 ≤ k) : Sg (iS k) := fun c hc => by
  have := of_decide_eq_true (iS_figs h c hc)
  omega
theorem sg_fin {t : Str} (h : (t.cps.toList.all fun c => decide (c < 128)) = true) : Sg t := fun c hc => of_decide_eq_true (List.all_eq_true.mp h c hc)
theorem sg_join {sep : Str} (hs : Sg sep) : ∀ {ts : List Str}, (∀ t ∈ ts, Sg t) → Sg (Str.join sep ts)
  | [], _ => sg_fin rfl
  | [t], h => h t List.mem_cons_self
  | t :: u :: ts, h => by
    show Sg (t ++ sep ++ Str.join sep (u :: ts))
    exact sg_app2 (sg_app2 (h t List.mem_cons_self) hs) (sg_join hs fun x hx => h x (List.mem_cons_of_mem _ hx))
theorem sg_txt {n fl : Int} : ∀ (g : Nat) (s : Sy g), Good n fl g s → Sg (txt g s)
  | 0, s, _ => nomatch (show Empty from s)
  | g + 1, s, gs => by
    match (show SyF (Sy g) from s), (show Good n fl (g + 1) (show SyF (Sy g) from s) from gs) with
    | .ch t m, gs => exact sg_app2 (by cases t <;> exact sg_fin (by decide +kernel)) (sg_iS gs.1)
    | .row l, gs =>
      refine sg_app2 (sg_app2 (sg_fin (by decide +kernel)) (sg_join (sg_fin (by decide +kernel)) fun t ht => ?_)) (sg_fin (by decide +kernel))
      obtain ⟨u, hu, rfl⟩ := List.mem_map.mp ht
      exact sg_txt g u (gs.2 u hu)
    | .tm u k, gs => exact sg_app2 (sg_app2 (sg_txt g u gs.2.2.1) (sg_fin (by decide +kernel))) (sg_iS gs.1)
    | .un u, gs => exact sg_app2 (sg_fin (by decide +kernel)) (sg_txt g u gs.1)

/-- what a whole text says -/
def rdF (n : Int) (t : Str) : Option (Sy (dw 8 + 1)) := match whF t (wnF n t 8) 0 with
  | none => none
  | some x => if x.2 = t.length ∧ dep (dw 8 + 1) x.1 ≤ 8 ∧ nod (dw 8 + 1) x.1 ≤ 60 then some x.1 else none
theorem rd_txt {n : Int} (n24 : n ≤ 24) (s : Sy 8) (gs : Good n 0 8 s) (ns : nod 8 s ≤ 60) : rdF n (txt 8 s) = some (emb 8 (dw 8 + 1) (by decide) s) := by
  unfold rdF
  rw [found_txt n24 s gs]
  dsimp only
  rw [if_pos ⟨rfl, dep_emb 8 _ _ s, by rw [nod_emb]; exact ns⟩]
theorem ix_sign {z : Str} {i : Int} {Q : VK} {H : Hp} (hz : (z.cps.toList.all fun c => decide (c < 128)) = true) (hl : z.length ≤ 1000) (h0 : 0 ≤ i) (h1 : i < z.length) (q : ∀ c : Nat, c < 128 → Q (.str ⟨#[c]⟩) H) : rIxS (.str z) (.int i) H Q := by
  have hi : i.toNat < z.cps.toList.length := by
    have : z.cps.toList.length = z.length := by rw [Array.length_toList]; rfl
    omega
  have e : atI z.cps.toList ((i.toNat : Nat) : Int) = some z.cps.toList[i.toNat] := atI_nat (List.getElem?_eq_getElem hi)
  rw [show ((i.toNat : Nat) : Int) = i by omega] at e
  exact ⟨z, i, _, rfl, rfl, fit1000 hl, e, q _ (of_decide_eq_true (List.all_eq_true.mp hz _ (List.getElem_mem hi)))⟩
theorem sIx_pos (n d : Nat) {k : Int} (h : 0 ≤ k) : HT.sIx n d (some k) = min k.toNat n := by
  show (if k < 0 then (k + (n : Int)).toNat else min k.toNat n) = _
  rw [if_neg (by omega)]
theorem cut_size (t : Str) (lo hi : Option Int) : (cutS t lo hi).length = min (HT.sIx t.length t.length hi - HT.sIx t.length 0 lo) (t.length - HT.sIx t.length 0 lo) := by
  show (cutS t lo hi).cps.size = _
  unfold cutS
  have : t.cps.toList.length = t.length := by rw [Array.length_toList]; rfl
  simp only [List.size_toArray, List.length_take, List.length_drop, this]
theorem front_len {t : Str} {k : Int} (h0 : 0 ≤ k) (h1 : k ≤ t.length) : (cutS t none (some k)).length = k.toNat := by
  rw [cut_size, sIx_pos _ _ h0]
  show min (min k.toNat t.length - 0) (t.length - 0) = _
  omega
theorem back_len {t : Str} {k : Int} (h0 : 0 ≤ k) : (cutS t (some k) none).length ≤ t.length - k.toNat := by
  rw [cut_size, sIx_pos _ _ h0]
  show min (t.length - min k.toNat t.length) (t.length - min k.toNat t.length) ≤ _
  omega
theorem sg_app {a b : Str} (ha : Sg a) (hb : Sg b) : Sg (a ++ b) := fun c hc => by
  rw [app_list] at hc
  rcases List.mem_append.mp hc with z | z
  · exact ha c z
  · exact hb c z
theorem sg_one {x : Nat} (h : x < 128) : Sg ⟨#[x]⟩ := fun c hc => by
  have : c = x := by simpa using hc
  omega

/-- such as a text may say -/
def Gd (n : Int) : (d : Nat) → Sy d → Prop
  | 0, _ => True
  | d + 1, s => match (show SyF (Sy d) from s) with
    | .ch _ m => 0 ≤ m ∧ m < n
    | .row l => ∀ u ∈ l, Gd n d u
    | .tm u k => 0 ≤ k ∧ k ≤ 10 ^ 30 ∧ Gd n d u ∧ ¬ isTm d u
    | .un u => Gd n d u ∧ ¬ isTm d u
theorem sum_ge {α : Type} {f : α → Nat} : ∀ {l : List α}, (∀ u ∈ l, 1 ≤ f u) → l.length ≤ (l.map f).sum
  | [], _ => Nat.le_refl _
  | x :: l, h => by
    have := sum_ge (f := f) (l := l) fun u hu => h u (List.mem_cons_of_mem _ hu)
    have := h x List.mem_cons_self
    show l.length + 1 ≤ f x + (l.map f).sum
    omega
theorem mem_sum2 {α : Type} {f : α → Nat} {u : α} : ∀ {l : List α}, u ∈ l → f u ≤ (l.map f).sum
  | x :: l, h => by
    show f u ≤ f x + (l.map f).sum
    rcases List.mem_cons.mp h with rfl | h
    · omega
    · have := mem_sum2 (f := f) h
      omega
theorem nod_pos : ∀ (d : Nat) (s : Sy d), 1 ≤ nod d s
  | 0, s => nomatch (show Empty from s)
  | d + 1, s => by
    exact Nat.le_trans (Nat.le_add_right 1 _) (Nat.le_of_eq (nod_kids (show SyF (Sy d) from s)).symm)
theorem gd_good {n : Int} : ∀ (d : Nat) (s : Sy d), Gd n d s → nod d s ≤ 60 → Good n 0 d s
  | 0, s, _, _ => True.intro
  | d + 1, s, g, h => by
    match (show SyF (Sy d) from s), (show Gd n (d + 1) (show SyF (Sy d) from s) from g), (show nod (d + 1) (show SyF (Sy d) from s) ≤ 60 from h) with
    | .ch _ _, g, _ => exact g
    | .row l, g, h =>
      have h : 1 + (l.map (nod d)).sum ≤ 60 := h
      have := sum_ge (f := nod d) (l := l) fun u _ => nod_pos d u
      exact ⟨by omega, fun u hu => gd_good d u (g u hu) (by have := mem_sum2 (f := nod d) hu; omega)⟩
    | .tm u k, g, h =>
      have h : 1 + nod d u ≤ 60 := h
      have g : 0 ≤ k ∧ k ≤ 10 ^ 30 ∧ Gd n d u ∧ ¬ isTm d u := g
      exact ⟨g.1, g.2.1, gd_good d u g.2.2.1 (by omega), fun _ => g.2.2.2⟩
    | .un u, g, h =>
      have h : 1 + nod d u ≤ 60 := h
      have g : Gd n d u ∧ ¬ isTm d u := g
      exact ⟨gd_good d u g.1 (by omega), fun _ => g.2⟩
theorem isTm_up : ∀ (d : Nat) (s : Sy d), isTm (d + 1) (up d s) ↔ isTm d s
  | 0, s => nomatch (show Empty from s)
  | d + 1, s => by
    match (show SyF (Sy d) from s) with
    | .ch _ _ => exact Iff.rfl
    | .row _ => exact Iff.rfl
    | .tm _ _ => exact Iff.rfl
    | .un _ => exact Iff.rfl
theorem txt_up : ∀ (d : Nat) (s : Sy d), txt (d + 1) (up d s) = txt d s
  | 0, s => nomatch (show Empty from s)
  | d + 1, s => by
    match (show SyF (Sy d) from s) with
    | .ch _ _ => rfl
    | .row l =>
      show Str.ofString "(" ++ Str.join (Str.ofString " ") ((l.map (up d)).map (txt (d + 1))) ++ Str.ofString ")" = Str.ofString "(" ++ Str.join (Str.ofString " ") (l.map (txt d)) ++ Str.ofString ")"
      rw [List.map_map, show l.map (txt (d + 1) ∘ up d) = l.map (txt d) from List.map_congr_left fun u _ => txt_up d u]
    | .tm u k =>
      show txt (d + 1) (up d u) ++ Str.ofString "*" ++ iS k = txt d u ++ Str.ofString "*" ++ iS k
      rw [txt_up d u]
    | .un u =>
      show Str.ofString "~" ++ txt (d + 1) (up d u) = Str.ofString "~" ++ txt d u
      rw [txt_up d u]
theorem gd_up {n : Int} : ∀ (d : Nat) (s : Sy d), Gd n d s → Gd n (d + 1) (up d s)
  | 0, s, _ => nomatch (show Empty from s)
  | d + 1, s, g => by
    match (show SyF (Sy d) from s), (show Gd n (d + 1) (show SyF (Sy d) from s) from g) with
    | .ch _ _, g => exact g
    | .row l, g =>
      intro u hu
      obtain ⟨w, hw, rfl⟩ := List.mem_map.mp (show u ∈ l.map (up d) from hu)
      exact gd_up d w (g w hw)
    | .tm u k, g =>
      have g : 0 ≤ k ∧ k ≤ 10 ^ 30 ∧ Gd n d u ∧ ¬ isTm d u := g
      exact ⟨g.1, g.2.1, gd_up d u g.2.2.1, fun z => g.2.2.2 ((isTm_up d u).mp z)⟩
    | .un u, g =>
      have g : Gd n d u ∧ ¬ isTm d u := g
      exact ⟨gd_up d u g.1, fun z => g.2 ((isTm_up d u).mp z)⟩
theorem fig_back : ∀ c : Nat, 48 ≤ c ∧ c ≤ 57 → (Char.ofNat c).toNat = c := fun c h => by
  obtain ⟨k, hk⟩ : ∃ k : Fin 10, c = 48 + k.val := ⟨⟨c - 48, by omega⟩, by show c = 48 + (c - 48); omega⟩
  rw [hk]
  have : ∀ k : Fin 10, (Char.ofNat (48 + k.val)).toNat = 48 + k.val := by decide
  exact this k
theorem many_back {f : Str} {m : Int} (hf : ∀ c ∈ f.cps.toList, isFig c = true) (h : manyF f = some m) : (0 ≤ m ∧ m ≤ 10 ^ 30) ∧ iS m = f := by
  unfold manyF at h
  split at h
  · cases h
  · next h1 =>
    split at h
    · cases h
    · split at h
      · cases h
      · next h3 =>
        have e := Option.some.inj h
        refine ⟨⟨by omega, by omega⟩, ?_⟩
        have hd : NumText.AllDigits f.cps.toList := fun c hc => of_decide_eq_true (hf c hc)
        have key : Nat.toDigits 10 (NumText.digitsVal f.cps.toList) = f.cps.toList.map Char.ofNat := by
          cases hc : f.cps.toList with
          | nil => exact absurd (.inl hc) h1
          | cons c r =>
            rw [hc] at hd h1
            refine NumText.toDigits_digitsVal r.length (c :: r) rfl hd ?_
            by_cases h48 : c = 48
            · left
              have : c :: r = [48] := Classical.byContradiction fun z => h1 (.inr ⟨by rw [h48]; rfl, z⟩)
              have := congrArg List.length this
              simpa using this
            · have := hd c List.mem_cons_self
              exact .inr ⟨c, r, rfl, by omega⟩
        refine str_list ?_
        rw [← e]
        show (Str.ofString (toString ((NumText.digitsVal f.cps.toList : Nat) : Int))).cps.toList = f.cps.toList
        rw [W.KIN.signs_num, key, List.map_map]
        conv => rhs; rw [← List.map_id f.cps.toList]
        exact List.map_congr_left fun c hc => fig_back c (hd c hc)
theorem ch_back {n : Int} (n24 : n ≤ 24) {w : Str} {c : Bool × Int} (h : chF n w = some c) : (0 ≤ c.2 ∧ c.2 < n) ∧ chT c.1 c.2 = w := by
  unfold chF at h
  split at h
  · cases h
  · next m hm =>
    obtain ⟨hb, he⟩ := (numT_some n24).mp hm
    have one : ∀ x : Nat, w.cps.toList.head? = some x → w.cps.toList = x :: (iS m).cps.toList := fun x hx => by
      have e2 : (cutS w (some 1) none).cps.toList = w.cps.toList.drop 1 := by
        unfold cutS
        have e1 : HT.sIx w.length 0 (some 1) = min 1 w.length := by
          simp only [HT.sIx]
          split <;> omega
        have e3 : HT.sIx w.length w.length none = w.length := rfl
        rw [e1, e3]
        have l := len_list w
        cases hw : w.cps.toList with
        | nil => rw [hw] at hx; cases hx
        | cons y ys =>
          rw [hw] at l
          simp only [List.length_cons] at l
          rw [show min 1 w.length = 1 by omega]
          show ys.take (w.length - 1) = ys
          exact List.take_of_length_le (by omega)
      rw [he, e2]
      cases hw : w.cps.toList with
      | nil => rw [hw] at hx; cases hx
      | cons y ys =>
        rw [hw] at hx
        have : y = x := by simpa using hx
        rw [this]
        rfl
    split at h
    · next ht =>
      have e := Option.some.inj h
      subst e
      refine ⟨hb, str_list ?_⟩
      have ht : w.cps.toList.head? = some 116 := by
        rw [show (Str.ofString "t") = ⟨#[116]⟩ by decide +kernel, starts_one] at ht
        exact of_decide_eq_true ht
      show (lT true ++ iS m).cps.toList = _
      rw [one 116 ht, app_list, show lT true = ⟨#[116]⟩ by decide +kernel]
      rfl
    · split at h
      · next ht =>
        have e := Option.some.inj h
        subst e
        refine ⟨hb, str_list ?_⟩
        have ht : w.cps.toList.head? = some 109 := by
          rw [show (Str.ofString "m") = ⟨#[109]⟩ by decide +kernel, starts_one] at ht
          exact of_decide_eq_true ht
        show (lT false ++ iS m).cps.toList = _
        rw [one 109 ht, app_list, show lT false = ⟨#[109]⟩ by decide +kernel]
        rfl
      · cases h
theorem cut_split (t : Str) {p q : Nat} (h : p ≤ q) (hq : q ≤ t.length) : t.cps.toList.drop p = (cutS t (some (p : Int)) (some (q : Int))).cps.toList ++ t.cps.toList.drop q := by
  rw [cut_nat t h]
  show _ = (t.cps.toList.drop p).take (q - p) ++ _
  conv => lhs; rw [← List.take_append_drop (q - p) (t.cps.toList.drop p)]
  rw [List.drop_drop, show p + (q - p) = q by omega]
theorem eof_len (t : Str) {p : Nat} (h : p ≤ t.length) : eof t p ≤ t.length := by
  have := nfig_le (t.cps.toList.drop p)
  rw [List.length_drop, len_list] at this
  unfold eof
  omega
/-- what a reader finds stands there -/
def Snd (n : Int) (t : Str) (e : Nat) (f : Nat → Option (Sy e × Nat)) : Prop := ∀ p x, f p = some x → x.2 ≤ t.length ∧ t.cps.toList.drop p = (txt e x.1).cps.toList ++ t.cps.toList.drop x.2 ∧ Gd n e x.1
theorem st_head {t : Str} {c p : Nat} (h : Txt.startswith3 t ⟨#[c]⟩ (p : Int) = true) : p < t.length ∧ t.cps.toList.drop p = c :: t.cps.toList.drop (p + 1) := by
  have l := starts3_lt h
  rw [st3] at h
  have h := of_decide_eq_true h
  refine ⟨l, ?_⟩
  cases hd : t.cps.toList.drop p with
  | nil => rw [hd] at h; cases h
  | cons x xs =>
    rw [hd] at h
    have : x = c := by simpa using h
    rw [this, ← List.drop_drop, hd]
    rfl
theorem wh_snd {n : Int} {t : Str} {e : Nat} {f : Nat → Option (Sy e × Nat)} (hf : Snd n t e f) (ht : ∀ p x, f p = some x → ¬ isTm e x.1) : Snd n t (e + 1) (whF t f) := by
  intro p x h
  unfold whF at h
  split at h
  · cases h
  · next y hy =>
    obtain ⟨a1, a2, a3⟩ := hf p y hy
    split at h
    · next hs =>
      rw [s_star] at hs
      obtain ⟨b1, b2⟩ := st_head hs
      have el := eof_len t (p := y.2 + 1) (by omega)
      split at h
      · cases h
      · next m hm =>
        obtain ⟨c1, c2⟩ := many_back (cut_figs t (y.2 + 1)) hm
        have e := Option.some.inj h
        subst e
        refine ⟨el, ?_, c1.1, c1.2, a3, ht p y hy⟩
        show _ = (txt e y.1 ++ Str.ofString "*" ++ iS m).cps.toList ++ t.cps.toList.drop (eof t (y.2 + 1))
        rw [a2, b2, cut_split t (eof_le t (y.2 + 1)) el, ← c2, app_list, app_list, s_star, List.append_assoc, List.append_assoc]
        rfl
    · have e := Option.some.inj h
      subst e
      refine ⟨a1, ?_, gd_up _ _ a3⟩
      show _ = (txt (e + 1) (up e y.1)).cps.toList ++ t.cps.toList.drop y.2
      rw [txt_up]
      exact a2
theorem row_snd {n : Int} {t : Str} {e : Nat} {f : Nat → Option (Sy e × Nat)} (hf : Snd n t e f) : ∀ (k p : Nat) (x : List (Sy e) × Nat), rowL t f k p = some x → x.2 ≤ t.length ∧ x.1 ≠ [] ∧ t.cps.toList.drop p = (Str.join (Str.ofString " ") (x.1.map (txt e))).cps.toList ++ t.cps.toList.drop x.2 ∧ ∀ u ∈ x.1, Gd n e u
  | 0, _, _, h => by cases h
  | k + 1, p, x, h => by
    unfold rowL at h
    split at h
    · cases h
    · next y hy =>
      obtain ⟨a1, a2, a3⟩ := hf p y hy
      split at h
      · next hs =>
        rw [s_blank] at hs
        obtain ⟨b1, b2⟩ := st_head hs
        split at h
        · cases h
        · next z hz =>
          obtain ⟨c1, c2, c3, c4⟩ := row_snd hf k _ z hz
          have e := Option.some.inj h
          subst e
          refine ⟨c1, by simp, ?_, fun u hu => ?_⟩
          · cases hz1 : z.1 with
            | nil => exact absurd hz1 c2
            | cons w ws =>
              rw [hz1] at c3
              show _ = (txt e y.1 ++ Str.ofString " " ++ Str.join (Str.ofString " ") ((w :: ws).map (txt e))).cps.toList ++ t.cps.toList.drop z.2
              rw [a2, b2, c3, app_list, app_list, s_blank, List.append_assoc, List.append_assoc]
              rfl
          · rcases List.mem_cons.mp hu with rfl | hu
            · exact a3
            · exact c4 u hu
      · have e := Option.some.inj h
        subst e
        refine ⟨a1, by simp, a2, fun u hu => ?_⟩
        rw [List.mem_singleton.mp hu]
        exact a3
theorem rowF_snd {n : Int} {t : Str} {e : Nat} {f : Nat → Option (Sy e × Nat)} (hf : Snd n t e f) {p : Nat} {x : List (Sy e) × Nat} (h : rowF t f p = some x) : x.2 ≤ t.length ∧ t.cps.toList.drop p = (Str.join (Str.ofString " ") (x.1.map (txt e))).cps.toList ++ (41 :: t.cps.toList.drop x.2) ∧ ∀ u ∈ x.1, Gd n e u := by
  unfold rowF at h
  split at h
  · next hs =>
    rw [s_shut] at hs
    obtain ⟨b1, b2⟩ := st_head hs
    have e := Option.some.inj h
    subst e
    exact ⟨b1, b2, fun u hu => by cases hu⟩
  · split at h
    · cases h
    · next y hy =>
      obtain ⟨a1, _, a3, a4⟩ := row_snd hf _ _ y hy
      split at h
      · next hs =>
        rw [s_shut] at hs
        obtain ⟨b1, b2⟩ := st_head hs
        have e := Option.some.inj h
        subst e
        exact ⟨b1, by rw [a3, b2], a4⟩
      · cases h
theorem wn_snd {n : Int} {t : Str} (n24 : n ≤ 24) : ∀ r : Nat, Snd n t (dw r) (wnF n t r) ∧ ∀ p x, wnF n t r p = some x → ¬ isTm (dw r) x.1
  | 0 => ⟨fun p x h => by (cases h), fun p x h => by (cases h)⟩
  | r + 1 => by
    obtain ⟨i1, i2⟩ := wn_snd (t := t) n24 r
    have both : ∀ p x, wnF n t (r + 1) p = some x → (x.2 ≤ t.length ∧ t.cps.toList.drop p = (txt (dw (r + 1)) x.1).cps.toList ++ t.cps.toList.drop x.2 ∧ Gd n (dw (r + 1)) x.1) ∧ ¬ isTm (dw (r + 1)) x.1 := fun p x h => by
      unfold wnF at h
      split at h
      · next hs =>
        rw [s_til] at hs
        obtain ⟨b1, b2⟩ := st_head hs
        split at h
        · cases h
        · next y hy =>
          obtain ⟨a1, a2, a3⟩ := i1 _ y hy
          have nt := i2 _ y hy
          have e := Option.some.inj h
          subst e
          refine ⟨⟨a1, ?_, gd_up _ _ a3, fun z => nt ((isTm_up _ _).mp z)⟩, fun z => z⟩
          show _ = (Str.ofString "~" ++ txt (dw r + 1) (up (dw r) y.1)).cps.toList ++ t.cps.toList.drop y.2
          rw [txt_up, app_list, s_til, b2, a2, List.append_assoc]
          rfl
      · split at h
        · next hs =>
          rw [s_opn] at hs
          obtain ⟨b1, b2⟩ := st_head hs
          split at h
          · cases h
          · next y hy =>
            obtain ⟨a1, a2, a3⟩ := rowF_snd (wh_snd i1 i2) hy
            have e := Option.some.inj h
            subst e
            refine ⟨⟨a1, ?_, a3⟩, fun z => z⟩
            show _ = (Str.ofString "(" ++ Str.join (Str.ofString " ") (y.1.map (txt (dw r + 1))) ++ Str.ofString ")").cps.toList ++ t.cps.toList.drop y.2
            rw [app_list, app_list, s_opn, s_shut, b2, a2, List.append_assoc, List.append_assoc]
            rfl
        · split at h
          · cases h
          · next c hc =>
            obtain ⟨c1, c2⟩ := ch_back n24 hc
            have e := Option.some.inj h
            subst e
            have pl : p < t.length := by
              refine Classical.byContradiction fun z => ?_
              have e0 : t.cps.toList.drop p = [] := List.drop_eq_nil_of_le (by rw [len_list]; omega)
              have := congrArg (fun w : Str => w.cps.toList.length) c2
              rw [cut_nat t (by have := eof_le t (p + 1); omega)] at this
              have this : (lT c.1 ++ iS c.2).cps.toList.length = ((t.cps.toList.drop p).take (eof t (p + 1) - p)).length := this
              rw [e0, List.take_nil, len_list, strLen_append] at this
              have l1 : (lT c.1).length = 1 := by cases c.1 <;> decide +kernel
              simp only [List.length_nil] at this
              omega
            have el := eof_len t (p := p + 1) pl
            refine ⟨⟨el, ?_, c1⟩, fun z => z⟩
            show _ = (chT c.1 c.2).cps.toList ++ t.cps.toList.drop (eof t (p + 1))
            rw [c2]
            exact cut_split t (by have := eof_le t (p + 1); omega) el
    exact ⟨fun p x h => (both p x h).1, fun p x h => (both p x h).2⟩
theorem rd_snd {n : Int} {t : Str} (n24 : n ≤ 24) {s : Sy (dw 8 + 1)} (h : rdF n t = some s) : txt (dw 8 + 1) s = t ∧ Good n 0 (dw 8 + 1) s ∧ dep (dw 8 + 1) s ≤ 8 ∧ nod (dw 8 + 1) s ≤ 60 := by
  unfold rdF at h
  split at h
  · cases h
  · next x hx =>
    split at h
    · next hc =>
      obtain ⟨i1, i2⟩ := wn_snd (t := t) n24 8
      obtain ⟨a1, a2, a3⟩ := wh_snd i1 i2 0 x hx
      have e := Option.some.inj h
      subst e
      refine ⟨str_list ?_, gd_good _ _ a3 hc.2.2, hc.2.1, hc.2.2⟩
      have a2 : t.cps.toList = (txt (dw 8 + 1) x.1).cps.toList ++ t.cps.toList.drop x.2 := a2
      rw [hc.1, List.drop_eq_nil_of_le (by rw [len_list]; exact Nat.le_refl _), List.append_nil] at a2
      exact a2.symm
    · cases h
def rp (z : Str) (k : Nat) : Str := ⟨(List.replicate k z.cps).foldl (· ++ ·) #[]⟩
theorem rp_acc (a : Array Nat) : ∀ (k : Nat) (b : Array Nat), ((List.replicate k a).foldl (· ++ ·) b).toList = b.toList ++ (List.replicate k a.toList).flatten
  | 0, b => by simp
  | k + 1, b => by
    rw [List.replicate_succ, List.foldl_cons, rp_acc a k (b ++ a), Array.toList_append, List.replicate_succ, List.flatten_cons, List.append_assoc]
theorem rp_list (z : Str) (k : Nat) : (rp z k).cps.toList = (List.replicate k z.cps.toList).flatten := by
  show ((List.replicate k z.cps).foldl (· ++ ·) #[]).toList = _
  rw [rp_acc]
  rfl
theorem rp_one (c : Nat) (k : Nat) : (rp ⟨#[c]⟩ k).cps.toList = List.replicate k c := by
  rw [rp_list]
  show (List.replicate k [c]).flatten = _
  induction k with
  | zero => rfl
  | succ k ih => rw [List.replicate_succ, List.flatten_cons, ih, List.replicate_succ]; rfl
theorem deep_un {n : Int} {t : Str} : ∀ (r p : Nat), (∀ j, j < r → (t.cps.toList.drop (p + j)).head? = some 126) → wnF n t r p = none
  | 0, _, _ => rfl
  | r + 1, p, h => by
    unfold wnF
    rw [show Txt.startswith3 t (Str.ofString "~") (p : Int) = true by
      rw [s_til, st3]
      exact decide_eq_true (h 0 (by omega))]
    rw [if_pos rfl, deep_un r (p + 1) (fun j hj => by rw [show p + 1 + j = p + (j + 1) by omega]; exact h (j + 1) (by omega))]
theorem deep_row {n : Int} {t : Str} : ∀ (r p : Nat), (∀ j, j < r + 1 → (t.cps.toList.drop (p + j)).head? = some 40) → wnF n t r p = none
  | 0, _, _ => rfl
  | r + 1, p, h => by
    have ih := deep_row (n := n) r (p + 1) (fun j hj => by rw [show p + 1 + j = p + (j + 1) by omega]; exact h (j + 1) (by omega))
    have e : whF t (wnF n t r) (p + 1) = none := by
      unfold whF
      rw [ih]
    have e2 : rowF t (whF t (wnF n t r)) (p + 1) = none := by
      refine rowF_none ?_ (rowL_none e)
      show Txt.startswith3 t (Str.ofString ")") ((p + 1 : Nat) : Int) = false
      rw [s_shut]
      refine starts_not ?_
      rw [h 1 (by omega)]
      decide
    unfold wnF
    rw [show Txt.startswith3 t (Str.ofString "~") (p : Int) = false by
      rw [s_til]
      refine starts_not ?_
      rw [show p = p + 0 from rfl, h 0 (by omega)]
      decide]
    rw [if_neg Bool.false_ne_true]
    rw [show Txt.startswith3 t (Str.ofString "(") (p : Int) = true by
      rw [s_opn, st3]
      exact decide_eq_true (h 0 (by omega))]
    rw [if_pos rfl, e2]
theorem rd_none {n : Int} {t : Str} (h : wnF n t 8 0 = none) : (rdF n t).isSome = false := by
  unfold rdF whF
  rw [h]
  rfl
theorem rep_head {k c j : Nat} {r : List Nat} (h : j < k) : ((List.replicate k c ++ r).drop (0 + j)).head? = some c := by
  rw [Nat.zero_add, List.head?_drop, List.getElem?_append_left (by rw [List.length_replicate]; exact h), List.getElem?_replicate, if_pos h]
theorem bd_un (n : Int) {k : Nat} (hk : 8 ≤ k) (z : Str) : (rdF n (rp (Str.ofString "~") k ++ z)).isSome = false := by
  refine rd_none (deep_un 8 0 fun j hj => ?_)
  rw [app_list, s_til, rp_one]
  exact rep_head (by omega)
theorem bd_row (n : Int) {k : Nat} (hk : 9 ≤ k) : (rdF n (rp (Str.ofString "(") k)).isSome = false := by
  refine rd_none (deep_row 8 0 fun j hj => ?_)
  rw [s_opn, rp_one, ← List.append_nil (List.replicate k 40)]
  exact rep_head (by omega)
theorem rp_sg {z : Str} (h : Sg z) (k : Nat) : Sg (rp z k) := fun c hc => by
  rw [rp_list] at hc
  obtain ⟨l, hl, hcl⟩ := List.mem_flatten.mp hc
  rw [(List.mem_replicate.mp hl).2] at hcl
  exact h c hcl
theorem rp_len (z : Str) (k : Nat) : (rp z k).length = k * z.length := by
  rw [← len_list, rp_list, List.length_flatten, List.map_replicate, List.sum_replicate_nat, len_list]

/-- the law's thirty texts, with what is to be told of each -/
def bnd1 (n : Int) : List (Str × Bool) := [(Str.ofString "", false), (Str.ofString "t", false), (Str.ofString "t" ++ iS n, false), (Str.ofString "m" ++ iS (n - 1), true), (Str.ofString "t00", false), (Str.ofString "()", true)]
def bnd2 : List (Str × Bool) := [(Str.ofString "( )", false), (Str.ofString "(t0  t1)", false), (Str.ofString "(t0 t1 )", false), (Str.ofString "( t0)", false), (Str.ofString "t0 t1", false)]
def bmost : Str := Str.ofString "1" ++ rp (Str.ofString "0") 30
def bnd3 : List (Str × Bool) := [(Str.ofString "t0*" ++ bmost, true), (Str.ofString "t0*" ++ cutS bmost none (some (-1)) ++ Str.ofString "1", false), (Str.ofString "t0*05", false), (Str.ofString "t0*", false)]
def bnd4 : List (Str × Bool) := [(Str.ofString "t0*5*2", false), (Str.ofString "(t0*5)*2", true), (Str.ofString "~t0*5", true), (Str.ofString "~(t0*5)", true), (Str.ofString "~~m0", true)]
def bnd5 : List (Str × Bool) := [(rp (Str.ofString "~") 7 ++ Str.ofString "t0", true), (rp (Str.ofString "~") 8 ++ Str.ofString "t0", false), (rp (Str.ofString "~") 3000 ++ Str.ofString "t0", false), (rp (Str.ofString "(") 900, false)]
def bnd6 : List (Str × Bool) := [(Str.ofString "(" ++ rp (Str.ofString "t0 ") 58 ++ Str.ofString "t0)", true), (Str.ofString "(" ++ rp (Str.ofString "t0 ") 59 ++ Str.ofString "t0)", false), (rp (Str.ofString "~") 6 ++ Str.ofString "t0*2", true)]
def bnd7 : List (Str × Bool) := [(rp (Str.ofString "~") 7 ++ Str.ofString "t0*2", false), (Str.ofString "t0)", false), (Str.ofString "T0", false)]
def bnd (n : Int) : List (Str × Bool) := bnd1 n ++ bnd2 ++ bnd3 ++ bnd4 ++ bnd5 ++ bnd6 ++ bnd7
def okB (n : Int) (x : Str × Bool) : Bool := ((rdF n x.1).isSome == x.2) && (x.1.cps.toList.all fun c => decide (c < 128)) && decide (x.1.length ≤ 4000)
/-- what is to be shown of each -/
def OkB (n : Int) (x : Str × Bool) : Prop := (rdF n x.1).isSome = x.2 ∧ Sg x.1 ∧ x.1.length ≤ 4000
theorem okB_of {n : Int} {x : Str × Bool} (h : okB n x = true) : OkB n x := by
  obtain ⟨h1, h3⟩ := Bool.and_eq_true_iff.mp h
  obtain ⟨h1, h2⟩ := Bool.and_eq_true_iff.mp h1
  exact ⟨eq_of_beq h1, sg_fin h2, of_decide_eq_true h3⟩
theorem b1_ok : ∀ k : Fin 22, (bnd1 (3 + (k.val : Int))).all (okB (3 + (k.val : Int))) = true := by decide +kernel
theorem b2_ok : ∀ k : Fin 22, bnd2.all (okB (3 + (k.val : Int))) = true := by decide +kernel
theorem b3_ok : ∀ k : Fin 22, bnd3.all (okB (3 + (k.val : Int))) = true := by decide +kernel
theorem b4_ok : ∀ k : Fin 22, bnd4.all (okB (3 + (k.val : Int))) = true := by decide +kernel
theorem b5_ok : ∀ k : Fin 22, okB (3 + (k.val : Int)) (rp (Str.ofString "~") 7 ++ Str.ofString "t0", true) = true := by decide +kernel
theorem b6_ok : ∀ k : Fin 22, okB (3 + (k.val : Int)) (rp (Str.ofString "~") 6 ++ Str.ofString "t0*2", true) = true := by decide +kernel
theorem b7_ok : ∀ k : Fin 22, bnd7.all (okB (3 + (k.val : Int))) = true := by decide +kernel
/-- so many turns by nothing in a row -/
def ch0 : Sy 7 := (SyF.ch true 0 : SyF (Sy 6))
def many0 (k : Nat) : Sy 8 := (SyF.row (List.replicate k ch0) : SyF (Sy 7))
theorem join_rep (sep z : Str) : ∀ k : Nat, (Str.join sep (List.replicate (k + 1) z)).cps.toList = (List.replicate k (z.cps.toList ++ sep.cps.toList)).flatten ++ z.cps.toList
  | 0 => rfl
  | k + 1 => by
    have ih := join_rep sep z k
    show (z ++ sep ++ Str.join sep (List.replicate (k + 1) z)).cps.toList = _
    rw [app_list, app_list, ih, List.replicate_succ, List.flatten_cons, List.append_assoc (z.cps.toList ++ sep.cps.toList)]
theorem txt_ch0 : txt 7 ch0 = ⟨#[116, 48]⟩ := by decide +kernel
theorem many_txt (k : Nat) : Str.ofString "(" ++ rp (Str.ofString "t0 ") k ++ Str.ofString "t0)" = txt 8 (many0 (k + 1)) := by
  have e : txt 8 (many0 (k + 1)) = Str.ofString "(" ++ Str.join (Str.ofString " ") ((List.replicate (k + 1) ch0).map (txt 7)) ++ Str.ofString ")" := rfl
  refine str_list ?_
  rw [e, List.map_replicate, app_list, app_list, app_list, app_list, rp_list, join_rep, txt_ch0, s_blank, s_opn, s_shut, show (Str.ofString "t0 ") = ⟨#[116, 48, 32]⟩ by decide +kernel, show (Str.ofString "t0)") = ⟨#[116, 48, 41]⟩ by decide +kernel]
  show [40] ++ (List.replicate k [116, 48, 32]).flatten ++ [116, 48, 41] = [40] ++ ((List.replicate k [116, 48, 32]).flatten ++ [116, 48]) ++ [41]
  simp only [List.append_assoc]
  rfl
theorem many59 : Str.ofString "(" ++ rp (Str.ofString "t0 ") 58 ++ Str.ofString "t0)" = txt 8 (many0 59) := many_txt 58
theorem many60 : Str.ofString "(" ++ rp (Str.ofString "t0 ") 59 ++ Str.ofString "t0)" = txt 8 (many0 60) := many_txt 59
theorem many_good {n : Int} (h : 3 ≤ n) {k : Nat} (hk : k ≤ 60) : Good n 0 8 (many0 k) := by
  refine ⟨by rw [List.length_replicate]; exact hk, fun u hu => ?_⟩
  rw [(List.mem_replicate.mp hu).2]
  exact ⟨Int.le_refl 0, by omega⟩
theorem many_nod (k : Nat) : nod 8 (many0 k) = 1 + k := by
  show 1 + ((List.replicate k ch0).map (nod 7)).sum = 1 + k
  rw [List.map_replicate, show nod 7 ch0 = 1 from rfl, List.sum_replicate_nat, Nat.mul_one]
theorem bnd_ok {n : Int} (n3 : 3 ≤ n) (n24 : n ≤ 24) : ∀ x ∈ bnd n, OkB n x := by
  have e1 : n = 3 + (((⟨(n - 3).toNat, by omega⟩ : Fin 22).val : Nat) : Int) := by show n = 3 + (((n - 3).toNat : Nat) : Int); omega
  have all : ∀ {l : List (Str × Bool)}, l.all (okB n) = true → ∀ x ∈ l, OkB n x := fun h x hx => okB_of (List.all_eq_true.mp h x hx)
  have sgt : Sg (Str.ofString "t0") := sg_fin (by decide +kernel)
  intro x hx
  unfold bnd at hx
  simp only [List.mem_append] at hx
  rcases hx with (((((hx | hx) | hx) | hx) | hx) | hx) | hx
  · exact all (by rw [e1]; exact b1_ok _) x hx
  · exact all (by rw [e1]; exact b2_ok _) x hx
  · exact all (by rw [e1]; exact b3_ok _) x hx
  · exact all (by rw [e1]; exact b4_ok _) x hx
  · have l2 : (Str.ofString "t0").length = 2 := by decide +kernel
    have l1 : (Str.ofString "~").length = 1 := by decide +kernel
    have l3 : (Str.ofString "(").length = 1 := by decide +kernel
    rcases List.mem_cons.mp hx with rfl | hx
    · exact okB_of (by rw [e1]; exact b5_ok _)
    rcases List.mem_cons.mp hx with rfl | hx
    · exact ⟨bd_un n (by decide) _, sg_app2 (rp_sg (sg_fin (by decide +kernel)) _) sgt, (by show (rp (Str.ofString "~") 8 ++ Str.ofString "t0").length ≤ 4000; rw [strLen_append, rp_len, l1, l2]; omega)⟩
    rcases List.mem_cons.mp hx with rfl | hx
    · exact ⟨bd_un n (by decide) _, sg_app2 (rp_sg (sg_fin (by decide +kernel)) _) sgt, (by show (rp (Str.ofString "~") 3000 ++ Str.ofString "t0").length ≤ 4000; rw [strLen_append, rp_len, l1, l2]; omega)⟩
    · rw [List.mem_singleton.mp hx]
      exact ⟨bd_row n (by decide), rp_sg (sg_fin (by decide +kernel)) _, (by show (rp (Str.ofString "(") 900).length ≤ 4000; rw [rp_len, l3]; omega)⟩
  · rcases List.mem_cons.mp hx with rfl | hx
    · have g := many_good (n := n) n3 (k := 59) (by decide)
      have tl := txt_len n24 8 _ g
      rw [many_nod] at tl
      refine ⟨?_, ?_, ?_⟩
      · show (rdF n (Str.ofString "(" ++ rp (Str.ofString "t0 ") 58 ++ Str.ofString "t0)")).isSome = true
        rw [many59, rd_txt n24 _ g (by rw [many_nod]; decide)]
        rfl
      · show Sg (Str.ofString "(" ++ rp (Str.ofString "t0 ") 58 ++ Str.ofString "t0)")
        rw [many59]
        exact sg_txt 8 _ g
      · show (Str.ofString "(" ++ rp (Str.ofString "t0 ") 58 ++ Str.ofString "t0)").length ≤ 4000
        rw [many59]
        omega
    rcases List.mem_cons.mp hx with rfl | hx
    · have g := many_good (n := n) n3 (k := 60) (by decide)
      have tl := txt_len n24 8 _ g
      rw [many_nod] at tl
      refine ⟨?_, ?_, ?_⟩
      · show (rdF n (Str.ofString "(" ++ rp (Str.ofString "t0 ") 59 ++ Str.ofString "t0)")).isSome = false
        rw [many60]
        unfold rdF
        rw [found_txt n24 _ g]
        dsimp only
        rw [if_neg (fun z => by
          have z := z.2.2
          rw [nod_emb, many_nod] at z
          omega)]
        rfl
      · show Sg (Str.ofString "(" ++ rp (Str.ofString "t0 ") 59 ++ Str.ofString "t0)")
        rw [many60]
        exact sg_txt 8 _ g
      · show (Str.ofString "(" ++ rp (Str.ofString "t0 ") 59 ++ Str.ofString "t0)").length ≤ 4000
        rw [many60]
        omega
    · rw [List.mem_singleton.mp hx]
      exact okB_of (by rw [e1]; exact b6_ok _)
  · exact all (by rw [e1]; exact b7_ok _) x hx
/-- a text and a truth -/
def BR (H : Hp) (v : V) (x : Str × Bool) : Prop := ∃ r, v = .ref r ∧ H r = some (.tup [.str x.1, .bl x.2])
theorem BR.mono {H1 H2 : Hp} (t : TupKeep H1 H2) {v : V} {x : Str × Bool} : BR H1 v x → BR H2 v x
  | ⟨r, e, h⟩ => ⟨r, e, t _ _ h⟩
def BoolR (_ : Hp) (v : V) (b : Bool) : Prop := v = .bl b

def rRepB : R2 := fun x y H Q => ∃ (z : Str) (k : Int), x = .str z ∧ y = .int k ∧ 2 ≤ k ∧ k ≤ 100000 ∧ (z.length == 0) = false ∧ ¬ ((z.length : Int) > (2 ^ 63 - 1) / k) ∧ Builtin.Str.tooLong (z.length * k.toNat) = false ∧ k.toNat * z.length ≤ sizeLine ∧ Q (.str (rp z k.toNat)) H
theorem op_repB {X : Cx} : OpR X (binaryOp .Mult) rRepB := by
  intro pins s σ H x y v u Q I rx ry h
  obtain ⟨z, k, rfl, rfl, k2, k3, z1, z2, z3, z4, q⟩ := h
  obtain ⟨t, rfl⟩ := rx
  obtain ⟨t', rfl⟩ := ry
  have one : (k == 1) = false := beq_eq_false_iff_ne.mpr (by omega)
  have rg : (decide (k < -(2 ^ 63 : Int)) || decide (k ≥ 2 ^ 63)) = false := Bool.or_eq_false_iff.mpr ⟨decide_eq_false (by omega), decide_eq_false (by omega)⟩
  refine PySem.P.mul_str rg (fun _ _ => z2) (fun _ _ => z3) ?_
  rw [if_neg (by omega : ¬ k < 1), if_neg (by rw [one, z1]; exact Bool.false_ne_true)]
  exact ⟨(by show (rp z k.toNat).length ≤ sizeLine; rw [rp_len]; exact z4), .str _, H, I.tok _, ⟨_, rfl⟩, q⟩
theorem eqok_bool {K : PySem.W.Frag} : EqOk K 0 BoolR where
  fn := by
    rintro H x a b h k
    cases h
    cases k
    rfl
  eq := by
    rintro X A pins σ H s x y v u a b hK I r r' h k hu
    cases h
    cases k
    rw [show decide (a = b) = eqV (V.bl a) (V.bl b) by cases a <;> cases b <;> rfl]
    exact eqAt_V r r' rfl rfl

structure Txt (K : PySem.W.Frag) (mg : Str → Option Value) : Prop where
  b_len : mg "len" = none
  b_max : mg "max" = none
  b_range : mg "range" = none
  b_list : mg "list" = none
  b_tuple : mg "tuple" = none
  b_str : mg "str" = none
  b_isinstance : mg "isinstance" = none
  b_ValueError : mg "ValueError" = none
  b_int : mg "int" = none
  b_bool : mg "bool" = none
  b_sum : mg "sum" = none
  b_all : mg "all" = none
  g_EXCS : ∃ c_ToneError c_NoText c_NoHalf c_NoLeading c_NoRow c_Unknown : Addr, mg "ToneError" = some (.ref c_ToneError) ∧ mg "NoText" = some (.ref c_NoText) ∧ mg "NoHalf" = some (.ref c_NoHalf) ∧ mg "NoLeading" = some (.ref c_NoLeading) ∧ mg "NoRow" = some (.ref c_NoRow) ∧ mg "Unknown" = some (.ref c_Unknown) ∧ PySem.W.nsIn K mainGlobals "NoText" = some (some (.ref c_NoText)) ∧ PySem.W.excIn K c_NoText [.type "ValueError", .type "Exception", .type "BaseException", .type "object"] "ValueError.__new__" = true ∧ PySem.W.exmOne K (.ref c_NoText) (.ref c_ToneError) = some true ∧ PySem.W.XcOk K c_NoText ∧ PySem.W.kitOne K (.ref c_NoText) (.ref c_NoText) = some true ∧ PySem.W.kitOne K (.ref c_NoText) (.type "ValueError") = some true ∧ PySem.W.kitAny K (.ref c_NoText) [.ref c_NoHalf, .ref c_NoLeading, .ref c_NoRow, .ref c_Unknown] = some false
  g_FIGURES : ∃ u : Value, mg "FIGURES" = some u ∧ RelV (V.str "0123456789") u
  g_DEEPEST : ∃ u : Value, mg "DEEPEST" = some u ∧ RelV (V.int 8) u
  g_MOST : ∃ u : Value, mg "MOST" = some u ∧ RelV (V.int 60) u
abbrev s_straight_within : Stmt := top 8
theorem sc_straight_within : FnScope ["saying"] ["saying"] (defScope s_straight_within) := ⟨rfl, rfl, rfl, by decide +kernel, rfl, by decide +kernel, by decide +kernel⟩
def sp_straight_within (wd : World) (K : PySem.W.Frag) : Sp := fun vs H Q _ => ∃ (g : Nat) (v : V) (s : SyF (Sy g)), vs = [v] ∧ SayF H (SayR H g) v s ∧ ∀ (r : Addr) (us : List V) (H' : Hp), Same H H' → H' r = some (.tup us) → Paired (SayR H' g) us (kids s) → Q (.ref r) H'
abbrev s_depth : Stmt := top 9
theorem sc_depth : FnScope ["saying"] ["saying"] (defScope s_depth) := ⟨rfl, rfl, rfl, by decide +kernel, rfl, by decide +kernel, by decide +kernel⟩
def sp_depth (d : Nat) (wd : World) (K : PySem.W.Frag) : Sp := fun vs H Q _ => ∃ (g : Nat) (v : V) (s : Sy g), vs = [v] ∧ g ≤ d ∧ SayR H g v s ∧ nod g s ≤ 10000 ∧ ∀ H', Same H H' → Q (.int ((dep g s : Nat) : Int)) H'
abbrev s_altogether : Stmt := top 10
theorem sc_altogether : FnScope ["saying"] ["saying"] (defScope s_altogether) := ⟨rfl, rfl, rfl, by decide +kernel, rfl, by decide +kernel, by decide +kernel⟩
def sp_altogether (d : Nat) (wd : World) (K : PySem.W.Frag) : Sp := fun vs H Q _ => ∃ (g : Nat) (v : V) (s : Sy g), vs = [v] ∧ g ≤ d ∧ SayR H g v s ∧ nod g s ≤ 10000 ∧ ∀ H', Same H H' → Q (.int ((nod g s : Nat) : Int)) H'
abbrev s_read_tone : Stmt := top 12
theorem sc_read_tone : FnScope ["n", "text", "written"] ["n", "text"] (defScope s_read_tone) := ⟨rfl, rfl, rfl, by decide +kernel, rfl, by decide +kernel, by decide +kernel⟩
def sp_read_tone (wd : World) (K : PySem.W.Frag) : Sp := fun vs H Q E => ∃ (n : Int) (t : Str), vs = [.int n, .str t] ∧ 3 ≤ n ∧ n ≤ 24 ∧ Sg t ∧ t.length ≤ 4000 ∧ (∀ x, numT n t = some x → ∀ H', Same H H' → Q (.int x) H') ∧ (numT n t = none → ∀ H', Same H H' → ∀ C, PySem.W.nsIn K mainGlobals "NoText" = some (some (.ref C)) → E (.ref C) none H')
abbrev s_read_change : Stmt := top 13
theorem sc_read_change : FnScope ["n", "text", "tone"] ["n", "text"] (defScope s_read_change) := ⟨rfl, rfl, rfl, by decide +kernel, rfl, by decide +kernel, by decide +kernel⟩
def sp_read_change (wd : World) (K : PySem.W.Frag) : Sp := fun vs H Q E => ∃ (n : Int) (t : Str), vs = [.int n, .str t] ∧ 3 ≤ n ∧ n ≤ 24 ∧ Sg t ∧ t.length ≤ 4000 ∧ (∀ (b : Bool) (m : Int), RdH n t b m → ∀ (r : Addr) (H' : Hp), Same H H' → H' r = some (.tup (chV b m)) → Q (.ref r) H') ∧ ((∀ b m, ¬ RdH n t b m) → ∀ H', Same H H' → ∀ C, PySem.W.nsIn K mainGlobals "NoText" = some (some (.ref C)) → E (.ref C) none H')
abbrev s_end_of_figures : Stmt := top 18
theorem sc_end_of_figures : FnScope ["text", "place"] ["text", "place"] (defScope s_end_of_figures) := ⟨rfl, rfl, rfl, by decide +kernel, rfl, by decide +kernel, by decide +kernel⟩
def sp_end_of_figures (wd : World) (K : PySem.W.Frag) : Sp := fun vs H Q _ => ∃ (t : Str) (p : Nat), vs = [.str t, .int (p : Int)] ∧ t.length ≤ 5000 ∧ Q (.int ((p + nfig (t.cps.toList.drop p) : Nat) : Int)) H
abbrev s_read_many : Stmt := top 19
theorem sc_read_many : FnScope ["figures"] ["figures"] (defScope s_read_many) := ⟨rfl, rfl, rfl, by decide +kernel, rfl, by decide +kernel, by decide +kernel⟩
def sp_read_many (wd : World) (K : PySem.W.Frag) : Sp := fun vs H Q E => ∃ f : Str, vs = [.str f] ∧ Sg f ∧ f.length ≤ 4000 ∧ (∀ c ∈ f.cps.toList, isFig c = true) ∧ (∀ m, manyF f = some m → Q (.int m) H) ∧ (manyF f = none → ∀ H', Same H H' → ∀ C, PySem.W.nsIn K mainGlobals "NoText" = some (some (.ref C)) → E (.ref C) none H')
abbrev s_read_whole : Stmt := top 22
theorem sc_read_whole : FnScope ["n", "text", "place", "room", "found", "begin", "end"] ["n", "text", "place", "room"] (defScope s_read_whole) := ⟨rfl, rfl, rfl, by decide +kernel, rfl, by decide +kernel, by decide +kernel⟩
def sp_read_whole (d : Nat) (wd : World) (K : PySem.W.Frag) : Sp := fun vs H Q E => ∃ (n : Int) (t : Str) (p r : Nat), vs = [.int n, .str t, .int (p : Int), .int (r : Int)] ∧ 3 ≤ n ∧ n ≤ 24 ∧ Sg t ∧ t.length ≤ 4000 ∧ r < d ∧ (∀ x, whF t (wnF n t r) p = some x → ∀ (v : V) (y : Addr) (H' : Hp), Same H H' → SayR H' (dw r + 1) v x.1 → H' y = some (.tup [v, .int ((x.2 : Nat) : Int)]) → Q (.ref y) H') ∧ (whF t (wnF n t r) p = none → ∀ H', Same H H' → ∀ C, PySem.W.nsIn K mainGlobals "NoText" = some (some (.ref C)) → E (.ref C) none H')
abbrev s_read_row_behind_bracket : Stmt := top 20
theorem sc_read_row_behind_bracket : FnScope ["n", "text", "place", "room", "found", "sayings"] ["n", "text", "place", "room"] (defScope s_read_row_behind_bracket) := ⟨rfl, rfl, rfl, by decide +kernel, rfl, by decide +kernel, by decide +kernel⟩
def sp_read_row_behind_bracket (d : Nat) (wd : World) (K : PySem.W.Frag) : Sp := fun vs H Q E => ∃ (n : Int) (t : Str) (p r : Nat), vs = [.int n, .str t, .int (p : Int), .int (r : Int)] ∧ 3 ≤ n ∧ n ≤ 24 ∧ Sg t ∧ t.length ≤ 4000 ∧ r < d ∧ (∀ x, rowF t (whF t (wnF n t r)) p = some x → ∀ (v : V) (y : Addr) (H' : Hp), Same H H' → SayR H' (dw r + 1 + 1) v (SyF.row x.1 : SyF (Sy (dw r + 1))) → H' y = some (.tup [v, .int ((x.2 : Nat) : Int)]) → Q (.ref y) H') ∧ (rowF t (whF t (wnF n t r)) p = none → ∀ H', Same H H' → ∀ C, PySem.W.nsIn K mainGlobals "NoText" = some (some (.ref C)) → E (.ref C) none H')
abbrev s_read_without_number : Stmt := top 21
theorem sc_read_without_number : FnScope ["n", "text", "place", "room", "found", "end"] ["n", "text", "place", "room"] (defScope s_read_without_number) := ⟨rfl, rfl, rfl, by decide +kernel, rfl, by decide +kernel, by decide +kernel⟩
def sp_read_without_number (d : Nat) (wd : World) (K : PySem.W.Frag) : Sp := fun vs H Q E => ∃ (n : Int) (t : Str) (p r : Nat), vs = [.int n, .str t, .int (p : Int), .int (r : Int)] ∧ 3 ≤ n ∧ n ≤ 24 ∧ Sg t ∧ t.length ≤ 4000 ∧ r < d ∧ (∀ x, wnF n t r p = some x → ∀ (v : V) (y : Addr) (H' : Hp), Same H H' → SayR H' (dw r) v x.1 → H' y = some (.tup [v, .int ((x.2 : Nat) : Int)]) → Q (.ref y) H') ∧ (wnF n t r p = none → ∀ H', Same H H' → ∀ C, PySem.W.nsIn K mainGlobals "NoText" = some (some (.ref C)) → E (.ref C) none H')
abbrev s_read_saying : Stmt := top 23
theorem sc_read_saying : FnScope ["n", "text", "found"] ["n", "text"] (defScope s_read_saying) := ⟨rfl, rfl, rfl, by decide +kernel, rfl, by decide +kernel, by decide +kernel⟩
def sp_read_saying (wd : World) (K : PySem.W.Frag) : Sp := fun vs H Q E => ∃ (n : Int) (t : Str), vs = [.int n, .str t] ∧ 3 ≤ n ∧ n ≤ 24 ∧ Sg t ∧ t.length ≤ 4000 ∧ (∀ s, rdF n t = some s → ∀ (v : V) (H' : Hp), Same H H' → SayR H' (dw 8 + 1) v s → Q v H') ∧ (rdF n t = none → ∀ H', Same H H' → ∀ C, PySem.W.nsIn K mainGlobals "NoText" = some (some (.ref C)) → E (.ref C) none H')
abbrev s_l_cell_at : Stmt := top 25
theorem sc_l_cell_at : FnScope ["_law_script", "_law_k"] ["_law_script", "_law_k"] (defScope s_l_cell_at) := ⟨rfl, rfl, rfl, by decide +kernel, rfl, by decide +kernel, by decide +kernel⟩
def sp_l_cell_at (wd : World) (K : PySem.W.Frag) : Sp := fun vs H Q _ => ∃ (a : Addr) (ns : List Int) (k : Int), vs = [.ref a, .int k] ∧ SqL K H a (ns.map V.int) ∧ ns.length ≤ 63 ∧ ∀ c : Int, Q (.int c) H
abbrev s_l_mixed : Stmt := top 26
theorem sc_l_mixed : FnScope ["_law_script", "_law_k", "_law_salt", "_law_cell", "_law_lap", "_law_near"] ["_law_script", "_law_k", "_law_salt"] (defScope s_l_mixed) := ⟨rfl, rfl, rfl, by decide +kernel, rfl, by decide +kernel, by decide +kernel⟩
def sp_l_mixed (wd : World) (K : PySem.W.Frag) : Sp := fun vs H Q _ => ∃ (a : Addr) (ns : List Int) (k z : Int), vs = [.ref a, .int k, .int z] ∧ SqL K H a (ns.map V.int) ∧ ns.length ≤ 63 ∧ (0 ≤ k ∧ k ≤ 1000000) ∧ (0 ≤ z ∧ z ≤ 1000000) ∧ ∀ c : Int, 0 ≤ c → c < 2147483648 → Q (.int c) H
abbrev s_l_wheel : Stmt := top 27
theorem sc_l_wheel : FnScope ["_law_script", "_law_most"] ["_law_script", "_law_most"] (defScope s_l_wheel) := ⟨rfl, rfl, rfl, by decide +kernel, rfl, by decide +kernel, by decide +kernel⟩
def sp_l_wheel (wd : World) (K : PySem.W.Frag) : Sp := fun vs H Q _ => ∃ (a : Addr) (ns : List Int), vs = [.ref a, .int 24] ∧ SqL K H a (ns.map V.int) ∧ ns.length ≤ 63 ∧ ∀ n : Int, 3 ≤ n → n ≤ 24 → Q (.int n) H
abbrev s_l_bare : Stmt := top 29
theorem sc_l_bare : FnScope ["_law_script", "_law_bag", "_law_n", "_law_deep_here", "_law_found"] ["_law_script", "_law_bag", "_law_n", "_law_deep_here"] (defScope s_l_bare) := ⟨rfl, rfl, rfl, by decide +kernel, rfl, by decide +kernel, by decide +kernel⟩
def sp_l_bare (d : Nat) (wd : World) (K : PySem.W.Frag) : Sp := fun vs H Q _ => ∃ (g : Nat) (a : Addr) (ns : List Int) (b : Addr) (i li fl n : Int), vs = [.ref a, .ref b, .int n, .int (g : Int)] ∧ (∀ H', SameX b H H' → SqL K H' a (ns.map V.int)) ∧ ns.length ≤ 63 ∧ H b = some (.lst [.int i, .int li, .int fl]) ∧ (0 ≤ i ∧ i + ((cntS g : Nat) : Int) ≤ 1000000) ∧ 0 < n ∧ n ≤ 24 ∧ 0 < g ∧ g ≤ d ∧ ∀ (v : V) (H' : Hp) (i' : Int) (s : Sy g), SameX b H H' → H' b = some (.lst [.int i', .int li, .int fl]) → i ≤ i' → i' ≤ i + ((cntS g : Nat) : Int) → (i' ≤ i + 1 ∨ i' ≤ li + 2 * (g : Int) - 1) → SayR H' g v s → Good n fl g s → ((nod g s : Nat) : Int) ≤ i' - i → (fl = 0 → ¬ isTm g s) → Q v H'
abbrev s_l_saying : Stmt := top 28
theorem sc_l_saying : FnScope ["_law_script", "_law_bag", "_law_n", "_law_deep_here", "_law_number", "_law_way", "_law_many_here"] ["_law_script", "_law_bag", "_law_n", "_law_deep_here"] (defScope s_l_saying) := ⟨rfl, rfl, rfl, by decide +kernel, rfl, by decide +kernel, by decide +kernel⟩
def sp_l_saying (d : Nat) (wd : World) (K : PySem.W.Frag) : Sp := fun vs H Q _ => ∃ (g : Nat) (a : Addr) (ns : List Int) (b : Addr) (i li fl n : Int), vs = [.ref a, .ref b, .int n, .int (g : Int)] ∧ (∀ H', SameX b H H' → SqL K H' a (ns.map V.int)) ∧ ns.length ≤ 63 ∧ H b = some (.lst [.int i, .int li, .int fl]) ∧ (0 ≤ i ∧ i + ((cntS g : Nat) : Int) ≤ 1000000) ∧ 0 < n ∧ n ≤ 24 ∧ 0 < g ∧ g ≤ d ∧ ∀ (v : V) (H' : Hp) (i' : Int) (s : Sy g), SameX b H H' → H' b = some (.lst [.int i', .int li, .int fl]) → i ≤ i' → i' ≤ i + ((cntS g : Nat) : Int) → (i' ≤ i + 1 ∨ i' ≤ li + 2 * (g : Int) - 1) → SayR H' g v s → Good n fl g s → ((nod g s : Nat) : Int) ≤ i' - i → Q v H'
abbrev s_l_saying_row : Stmt := top 30
theorem sc_l_saying_row : FnScope ["_law_saying_here"] ["_law_saying_here"] (defScope s_l_saying_row) := ⟨rfl, rfl, rfl, by decide +kernel, rfl, by decide +kernel, by decide +kernel⟩
def sp_l_saying_row (d : Nat) (wd : World) (K : PySem.W.Frag) : Sp := fun vs H Q _ => ∃ (g : Nat) (v : V) (s : Sy g) (n fl : Int), vs = [v] ∧ g ≤ d ∧ n ≤ 24 ∧ SayR H g v s ∧ Good n fl g s ∧ nod g s ≤ 3280 ∧ ∀ H', Same H H' → Q (.str (txt g s)) H'
abbrev s_l_sign : Stmt := top 31
theorem sc_l_sign : FnScope ["_law_number", "_law_some"] ["_law_number"] (defScope s_l_sign) := ⟨rfl, rfl, rfl, by decide +kernel, rfl, by decide +kernel, by decide +kernel⟩
def sp_l_sign (wd : World) (K : PySem.W.Frag) : Sp := fun vs H Q _ => ∃ c : Int, vs = [.int c] ∧ 0 ≤ c ∧ ∀ x : Nat, x < 128 → Q (.str ⟨#[x]⟩) H
abbrev s_l_bent : Stmt := top 32
theorem sc_l_bent : FnScope ["_law_text", "_law_number", "_law_way", "_law_at", "_law_sign_here"] ["_law_text", "_law_number"] (defScope s_l_bent) := ⟨rfl, rfl, rfl, by decide +kernel, rfl, by decide +kernel, by decide +kernel⟩
def sp_l_bent (wd : World) (K : PySem.W.Frag) : Sp := fun vs H Q _ => ∃ (t : Str) (c : Int), vs = [.str t, .int c] ∧ 0 ≤ c ∧ Sg t ∧ t.length ≤ 2000 ∧ ∀ t' : Str, Sg t' → t'.length ≤ t.length + 1 → Q (.str t') H
abbrev s_l_parts : Stmt := top 33
theorem sc_l_parts : FnScope ["_law_saying_here"] ["_law_saying_here"] (defScope s_l_parts) := ⟨rfl, rfl, rfl, by decide +kernel, rfl, by decide +kernel, by decide +kernel⟩
def sp_l_parts (wd : World) (K : PySem.W.Frag) : Sp := fun vs H Q _ => ∃ (g : Nat) (v : V) (s : SyF (Sy g)), vs = [v] ∧ SayF H (SayR H g) v s ∧ ∀ (r : Addr) (us : List V) (H' : Hp), Same H H' → H' r = some (.lst us) → Paired (SayR H' g) us (kids s) → Q (.ref r) H'
abbrev s_l_deep : Stmt := top 34
theorem sc_l_deep : FnScope ["_law_saying_here"] ["_law_saying_here"] (defScope s_l_deep) := ⟨rfl, rfl, rfl, by decide +kernel, rfl, by decide +kernel, by decide +kernel⟩
def sp_l_deep (d : Nat) (wd : World) (K : PySem.W.Frag) : Sp := fun vs H Q _ => ∃ (g : Nat) (v : V) (s : Sy g), vs = [v] ∧ g ≤ d ∧ SayR H g v s ∧ nod g s ≤ 10000 ∧ ∀ H', Same H H' → Q (.int ((dep g s : Nat) : Int)) H'
abbrev s_l_good : Stmt := top 35
theorem sc_l_good : FnScope ["_law_n", "_law_saying_here"] ["_law_n", "_law_saying_here"] (defScope s_l_good) := ⟨rfl, rfl, rfl, by decide +kernel, rfl, by decide +kernel, by decide +kernel⟩
def sp_l_good (d : Nat) (wd : World) (K : PySem.W.Frag) : Sp := fun vs H Q _ => ∃ (g : Nat) (v : V) (s : Sy g) (n : Int), vs = [.int n, v] ∧ g ≤ d ∧ n ≤ 24 ∧ SayR H g v s ∧ Good n 0 g s ∧ nod g s ≤ 10000 ∧ ∀ H', Same H H' → Q (.bl true) H'
abbrev s_l_many : Stmt := top 36
theorem sc_l_many : FnScope ["_law_saying_here"] ["_law_saying_here"] (defScope s_l_many) := ⟨rfl, rfl, rfl, by decide +kernel, rfl, by decide +kernel, by decide +kernel⟩
def sp_l_many (d : Nat) (wd : World) (K : PySem.W.Frag) : Sp := fun vs H Q _ => ∃ (g : Nat) (v : V) (s : Sy g), vs = [v] ∧ g ≤ d ∧ SayR H g v s ∧ nod g s ≤ 10000 ∧ ∀ H', Same H H' → Q (.int ((nod g s : Nat) : Int)) H'
abbrev s_l_read : Stmt := top 37
theorem sc_l_read : FnScope ["_law_n", "_law_text", "_law_found", "e", "_law_wrong"] ["_law_n", "_law_text"] (defScope s_l_read) := ⟨rfl, rfl, rfl, by decide +kernel, rfl, by decide +kernel, by decide +kernel⟩
def sp_l_read (wd : World) (K : PySem.W.Frag) : Sp := fun vs H Q _ => ∃ (n : Int) (t : Str), vs = [.int n, .str t] ∧ 3 ≤ n ∧ n ≤ 24 ∧ Sg t ∧ t.length ≤ 4000 ∧ ∀ (r : Addr) (H' : Hp), Same H H' → H' r = some (.tup [.bl true, .bl (rdF n t).isSome]) → Q (.ref r) H'
abbrev s_l_bound : Stmt := top 38
theorem sc_l_bound : FnScope ["_law_n", "_law_number", "_law_most", "_law_some"] ["_law_n", "_law_number"] (defScope s_l_bound) := ⟨rfl, rfl, rfl, by decide +kernel, rfl, by decide +kernel, by decide +kernel⟩
def sp_l_bound (wd : World) (K : PySem.W.Frag) : Sp := fun vs H Q _ => ∃ (n c : Int), vs = [.int n, .int c] ∧ 3 ≤ n ∧ n ≤ 24 ∧ ∀ (r : Addr) (x : Str × Bool) (H' : Hp), Same H H' → H' r = some (.tup [.str x.1, .bl x.2]) → x ∈ bnd n → Q (.ref r) H'
abbrev s_law : Stmt := top 39
theorem sc_law : FnScope ["_law_script", "_law_n", "_law_beside", "_law_k", "_law_saying_here", "_law_lap", "_law_text", "_law_wheel_here", "_law_good_here"] ["_law_script"] (defScope s_law) := ⟨rfl, rfl, rfl, by decide +kernel, rfl, by decide +kernel, by decide +kernel⟩
def sp_law (wd : World) (K : PySem.W.Frag) : Sp := fun vs H Q _ => ∃ (a : Addr) (ns : List Int), vs = [.ref a] ∧ SqL K H a (ns.map V.int) ∧ ns.length ≤ 63 ∧ ∀ H', Q (.bl true) H'
section
variable {P : Program} {w : World} {K : PySem.W.Frag} {mg : Str → Option Value} {base : Heap}
set_option maxHeartbeats 8000000 in
theorem ok_straight_within {f : Addr} {fd : FuncData} (F : Fun K "straight_within" "straight_within" s_straight_within f fd) (T : Txt K mg)  : FnOk P w K mg base CX0 1 f fd ["saying"] (sp_straight_within w K) := by
  refine F.ok sc_straight_within (fun vs H Q E h => ?_) (fun cdv A outer s H vs Q E hr h => ?_)
  · obtain ⟨g, v, s, rfl, rs, q⟩ := h
    rfl
  · obtain ⟨g, v, s, rfl, rs, q⟩ := h
    refine ⟨_, (@pss_cons _ _ _ _ _ (@ps_if _ _ _ _ _ _ _ _ (@pt_cmpR _ _ _ _ _ _ _ _ op_eq (@pe_ix _ _ _ _ _ _ _ ix_tup (pv 0) pe_int (fun _ _ => rfl)) pe_str (nomark _))
        (@pss_one _ _ _ (@ps_ret _ _ _ _ (@pe_tup _ _ _ _ _ pa_nil)))
        pss_nil)
      (@pss_cons _ _ _ _ _ (@ps_if _ _ _ _ _ _ _ _ (@pt_cmpR _ _ _ _ _ _ _ _ op_eq (@pe_ix _ _ _ _ _ _ _ ix_tup (pv 0) pe_int (fun _ _ => rfl)) pe_str (nomark _))
        (@pss_one _ _ _ (@ps_ret _ _ _ _ (@pe_ix _ _ _ _ _ _ _ ix_tup (pv 0) pe_int (fun _ _ => rfl))))
        pss_nil)
      (@pss_one _ _ _ (@ps_ret _ _ _ _ (@pe_tup _ _ _ _ _ (@pa_cons _ _ _ _ _ (@pe_ix _ _ _ _ _ _ _ ix_tup (pv 0) pe_int (fun _ _ => rfl)) pa_nil (by rfl))))))), ?_⟩
    match s, rs, q with
    | .ch t m, ⟨p, p2, e, h1, h2⟩, q =>
      subst e
      exact ⟨_, rfl, p, _, _, _, rfl, rfl, SqT.of h1, rfl, rfl, _, rfl, ifp rfl ⟨(by show 0 ≤ sizeLine; decide), fun r r0 => q r [] _ (Same.new r0) upd_same .nil⟩⟩
    | .row l, ⟨p, p2, us, e, h1, h2, pr⟩, q =>
      subst e
      exact ⟨_, rfl, p, _, _, _, rfl, rfl, SqT.of h1, rfl, rfl, _, rfl, ifn rfl ⟨_, rfl, p, _, _, _, rfl, rfl, SqT.of h1, rfl, rfl, _, rfl, ifp rfl ⟨_, rfl, p, _, _, _, rfl, rfl, SqT.of h1, rfl, q p2 us H (Same.refl _) h2 pr⟩⟩⟩
    | .tm u k, ⟨p, w, e, h1, ru⟩, q =>
      subst e
      exact ⟨_, rfl, p, _, _, _, rfl, rfl, SqT.of h1, rfl, rfl, _, rfl, ifn rfl ⟨_, rfl, p, _, _, _, rfl, rfl, SqT.of h1, rfl, rfl, _, rfl, ifn rfl ⟨_, rfl, p, _, _, _, rfl, rfl, SqT.of h1, rfl, (by show 1 ≤ sizeLine; decide), fun r r0 => q r [w] _ (Same.new r0) upd_same (.cons (SayR.mono (Same.new r0).tk _ _ _ ru) .nil)⟩⟩⟩
    | .un u, ⟨p, w, e, h1, ru⟩, q =>
      subst e
      exact ⟨_, rfl, p, _, _, _, rfl, rfl, SqT.of h1, rfl, rfl, _, rfl, ifn rfl ⟨_, rfl, p, _, _, _, rfl, rfl, SqT.of h1, rfl, rfl, _, rfl, ifn rfl ⟨_, rfl, p, _, _, _, rfl, rfl, SqT.of h1, rfl, (by show 1 ≤ sizeLine; decide), fun r r0 => q r [w] _ (Same.new r0) upd_same (.cons (SayR.mono (Same.new r0).tk _ _ _ ru) .nil)⟩⟩⟩
set_option maxHeartbeats 8000000 in
theorem step_depth (d : Nat) {f : Addr} {fd : FuncData} (F : Fun K "depth" "depth" s_depth f fd) (T : Txt K mg) (C_depth : Has P w K mg base (d * 1 + 2) "depth" ["saying"] (sp_depth (d) w K)) (C_straight_within : Has P w K mg base 1 "straight_within" ["saying"] (sp_straight_within w K)) : FnOk P w K mg base CX0 (d * 1 + 3) f fd ["saying"] (sp_depth (d + 1) w K) := by
  refine F.ok sc_depth (fun vs H Q E h => ?_) (fun cdv A outer s H vs Q E hr h => ?_)
  · obtain ⟨g, v, s, rfl, hg, rs, ns, q⟩ := h
    rfl
  · obtain ⟨g, v, s, rfl, hg, rs, ns, q⟩ := h
    refine ⟨_, (@pss_one _ _ _ (@ps_ret _ _ _ _ (@pe_op _ _ _ _ _ _ _ _ op_add pe_int (pe_maxD rfl (by rfl) T.b_max (pe_comp (ys := []) (js := []) ⟨by rfl, of_decide_eq_true (by kernel_rfl), of_decide_eq_true (by kernel_rfl), by rfl, of_decide_eq_true (by kernel_rfl), of_decide_eq_true (by kernel_rfl), by rfl, of_decide_eq_true (by kernel_rfl)⟩ rfl (pi_tup (@pe_callH _ _ _ _ _ _ _ _ _ _ C_straight_within (hr.mono (by omega)) rfl (@pa_cons _ _ _ _ _ (pv 0) pa_nil (by rfl)) (by decide) (by rfl) (by rfl))) (fun _ _ _ _ _ => pts_nil) (fun _ _ _ _ _ => (@pe_callH _ _ _ _ _ _ _ _ _ _ C_depth (hr.mono (by omega)) rfl (@pa_cons _ _ _ _ _ (pv 0) pa_nil (by rfl)) (by decide) (by rfl) (by rfl)))))))), ?_⟩
    cases g with
    | zero => exact nomatch (show Empty from s)
    | succ g =>
    obtain ⟨z, ez⟩ : ∃ z : SyF (Sy g), z = (show SyF (Sy g) from s) := ⟨_, rfl⟩
    have nk : nod (g + 1) s = 1 + ((kids z).map (nod g)).sum := by rw [ez]; exact nod_kids _
    have dk : dep (g + 1) s = 1 + maxL ((kids z).map (dep g)) := by rw [ez]; rfl
    refine ⟨_, rfl, g, v, z, rfl, (by rw [ez]; exact rs), fun r us H1 s1 hr0 pr => ?_⟩
    obtain ⟨bs, eb1, eb2, hR⟩ := prd_zip pr
    subst eb1
    rw [← eb2] at nk dk
    have ln := kids_len bs
    have nu : ∀ b ∈ bs, nod g b.2 ≤ 10000 := fun b hb => by
      have := mem_sum (f := nod g) (List.mem_map_of_mem (f := (·.2)) hb)
      omega
    refine ⟨r, rfl, ⟨_, SqT.of hr0⟩, comp_int bs (·.1) (fun _ => true) (fun b => ((dep g b.2 : Nat) : Int)) (it_tup bs (·.1) (SqT.of hr0)) (fun b H' _ _ Q2 h => h H' (Same.refl _)) (fun b H' hb _ s2 Q2 h => ⟨_, rfl, g, b.1, b.2, rfl, by omega, SayR.mono s2.tk _ _ _ (hR b hb), nu b hb, fun H4 s4 => h H4 s4⟩) (fit_big (by omega)) fun D H2 hD s2 hL => ?_⟩
    rw [filter_all] at hL
    have fin : ∀ m : Int, m = ((maxL ((bs.map (·.2)).map (dep g)) : Nat) : Int) → Q (.int (1 + m)) H2 := fun m e => by
      have e2 : (1 : Int) + m = ((dep (g + 1) s : Nat) : Int) := by rw [e, dk]; omega
      rw [e2]
      exact q H2 (s1.trans s2)
    refine ⟨D, _, rfl, SqL.of hL, (fun e => ⟨_, _, rfl, rfl, fin _ ?_⟩), fun m hm hx => ⟨_, _, rfl, rfl, fin m ?_⟩⟩
    · have : bs = [] := List.map_eq_nil_iff.mp e
      rw [this]
      rfl
    · obtain ⟨b, hb, rfl⟩ := List.mem_map.mp hm
      have a1 : dep g b.2 ≤ maxL ((bs.map (·.2)).map (dep g)) := maxL_ge (List.mem_map_of_mem (List.mem_map_of_mem (f := (·.2)) hb))
      have a2 : maxL ((bs.map (·.2)).map (dep g)) ∈ (bs.map (·.2)).map (dep g) := maxL_mem fun e => by
        have := List.map_eq_nil_iff.mp (List.map_eq_nil_iff.mp e)
        rw [this] at hb
        cases hb
      obtain ⟨u, hu, eu⟩ := List.mem_map.mp a2
      obtain ⟨b2, hb2, rfl⟩ := List.mem_map.mp hu
      have := hx _ (List.mem_map_of_mem hb2)
      omega
theorem ok_depth {f : Addr} {fd : FuncData} (F : Fun K "depth" "depth" s_depth f fd) (T : Txt K mg) (hm : mg "depth" = some (.ref f))  (C_straight_within : Has P w K mg base 1 "straight_within" ["saying"] (sp_straight_within w K)) : ∀ d : Nat, FnOk P w K mg base CX0 (d * 1 + 2) f fd ["saying"] (sp_depth (d) w K) := by
  intro d
  induction d with
  | zero => exact ⟨fun vs H Q E h => ((fun {vs H Q E} (h : sp_depth 0 w K vs H Q E) => (by obtain ⟨g, _, s, _, hg, _⟩ := h; cases g with | zero => exact nomatch (show Empty from s) | succ g => omega : False)) h).elim, fun A outer s H args us vs Q E _ _ _ _ h => ((fun {vs H Q E} (h : sp_depth 0 w K vs H Q E) => (by obtain ⟨g, _, s, _, hg, _⟩ := h; cases g with | zero => exact nomatch (show Empty from s) | succ g => omega : False)) h).elim⟩
  | succ d ih =>
    have C_depth : Has P w K mg base (d * 1 + 2) "depth" ["saying"] (sp_depth (d) w K) := ⟨_, _, ih, hm, F.kp, F.binds fun _ _ _ _ _ _ us hl => match us, hl with | [_], _ => rfl⟩
    exact (step_depth d F T C_depth C_straight_within).mono (by omega)
set_option maxHeartbeats 8000000 in
theorem step_altogether (d : Nat) {f : Addr} {fd : FuncData} (F : Fun K "altogether" "altogether" s_altogether f fd) (T : Txt K mg) (C_altogether : Has P w K mg base (d * 1 + 2) "altogether" ["saying"] (sp_altogether (d) w K)) (C_straight_within : Has P w K mg base 1 "straight_within" ["saying"] (sp_straight_within w K)) : FnOk P w K mg base CX0 (d * 1 + 3) f fd ["saying"] (sp_altogether (d + 1) w K) := by
  refine F.ok sc_altogether (fun vs H Q E h => ?_) (fun cdv A outer s H vs Q E hr h => ?_)
  · obtain ⟨g, v, s, rfl, hg, rs, ns, q⟩ := h
    rfl
  · obtain ⟨g, v, s, rfl, hg, rs, ns, q⟩ := h
    refine ⟨_, (@pss_one _ _ _ (@ps_ret _ _ _ _ (@pe_op _ _ _ _ _ _ _ _ op_add pe_int (pe_callB (call_sum rfl) (by rfl) T.b_sum PyProof.Rows.boot_sum (@pa_cons _ _ _ _ _ (pe_comp (ys := []) (js := []) ⟨by rfl, of_decide_eq_true (by kernel_rfl), of_decide_eq_true (by kernel_rfl), by rfl, of_decide_eq_true (by kernel_rfl), of_decide_eq_true (by kernel_rfl), by rfl, of_decide_eq_true (by kernel_rfl)⟩ rfl (pi_tup (@pe_callH _ _ _ _ _ _ _ _ _ _ C_straight_within (hr.mono (by omega)) rfl (@pa_cons _ _ _ _ _ (pv 0) pa_nil (by rfl)) (by decide) (by rfl) (by rfl))) (fun _ _ _ _ _ => pts_nil) (fun _ _ _ _ _ => (@pe_callH _ _ _ _ _ _ _ _ _ _ C_altogether (hr.mono (by omega)) rfl (@pa_cons _ _ _ _ _ (pv 0) pa_nil (by rfl)) (by decide) (by rfl) (by rfl)))) pa_nil (by rfl)))))), ?_⟩
    cases g with
    | zero => exact nomatch (show Empty from s)
    | succ g =>
    obtain ⟨z, ez⟩ : ∃ z : SyF (Sy g), z = (show SyF (Sy g) from s) := ⟨_, rfl⟩
    have nk : nod (g + 1) s = 1 + ((kids z).map (nod g)).sum := by rw [ez]; exact nod_kids _
    refine ⟨_, rfl, g, v, z, rfl, (by rw [ez]; exact rs), fun r us H1 s1 hr0 pr => ?_⟩
    obtain ⟨bs, eb1, eb2, hR⟩ := prd_zip pr
    subst eb1
    rw [← eb2] at nk
    have ln : bs.length ≤ 10000 := by
      have one : ∀ (l : List (Sy g)), l.length ≤ (l.map (nod g)).sum ∨ g = 0 := fun l => by
        cases g with
        | zero => exact .inr rfl
        | succ g =>
          left
          induction l with
          | nil => exact Nat.le_refl _
          | cons u l ih =>
            have : 1 ≤ nod (g + 1) u := Nat.le_trans (Nat.le_add_right 1 _) (Nat.le_of_eq (nod_kids (show SyF (Sy g) from u)).symm)
            show l.length + 1 ≤ nod (g + 1) u + (l.map (nod (g + 1))).sum
            omega
      rcases one (bs.map (·.2)) with h | h
      · rw [List.length_map] at h
        omega
      · subst h
        cases bs with
        | nil => exact Nat.zero_le _
        | cons b bs => exact nomatch (show Empty from b.2)
    have nu : ∀ b ∈ bs, nod g b.2 ≤ 10000 := fun b hb => by
      have := mem_sum (f := nod g) (List.mem_map_of_mem (f := (·.2)) hb)
      omega
    refine ⟨r, rfl, ⟨_, SqT.of hr0⟩, comp_int bs (·.1) (fun _ => true) (fun b => ((nod g b.2 : Nat) : Int)) (it_tup bs (·.1) (SqT.of hr0)) (fun b H' _ _ Q2 h => h H' (Same.refl _)) (fun b H' hb _ s2 Q2 h => ⟨_, rfl, g, b.1, b.2, rfl, by omega, SayR.mono s2.tk _ _ _ (hR b hb), nu b hb, fun H4 s4 => h H4 s4⟩) (fit_big (by omega)) fun D H2 hD s2 hL => ?_⟩
    rw [filter_all] at hL
    refine ⟨D, _, rfl, SqL.of hL, _, _, rfl, rfl, ?_⟩
    have es : (bs.map fun b => ((nod g b.2 : Nat) : Int)).sum = ((((bs.map (·.2)).map (nod g)).sum : Nat) : Int) := by
      clear hL nk ln nu hR eb2 pr hr0
      induction bs with
      | nil => rfl
      | cons b bs ih =>
        show ((nod g b.2 : Nat) : Int) + (bs.map fun b => ((nod g b.2 : Nat) : Int)).sum = ((nod g b.2 + ((bs.map (·.2)).map (nod g)).sum : Nat) : Int)
        rw [ih]
        omega
    have e : (1 : Int) + (bs.map fun b => ((nod g b.2 : Nat) : Int)).sum = ((nod (g + 1) s : Nat) : Int) := by
      rw [es, nk]
      omega
    show Q (.int ((1 : Int) + (bs.map fun b => ((nod g b.2 : Nat) : Int)).sum)) H2
    rw [e]
    exact q H2 (s1.trans s2)
theorem ok_altogether {f : Addr} {fd : FuncData} (F : Fun K "altogether" "altogether" s_altogether f fd) (T : Txt K mg) (hm : mg "altogether" = some (.ref f))  (C_straight_within : Has P w K mg base 1 "straight_within" ["saying"] (sp_straight_within w K)) : ∀ d : Nat, FnOk P w K mg base CX0 (d * 1 + 2) f fd ["saying"] (sp_altogether (d) w K) := by
  intro d
  induction d with
  | zero => exact ⟨fun vs H Q E h => ((fun {vs H Q E} (h : sp_altogether 0 w K vs H Q E) => (by obtain ⟨g, _, s, _, hg, _⟩ := h; cases g with | zero => exact nomatch (show Empty from s) | succ g => omega : False)) h).elim, fun A outer s H args us vs Q E _ _ _ _ h => ((fun {vs H Q E} (h : sp_altogether 0 w K vs H Q E) => (by obtain ⟨g, _, s, _, hg, _⟩ := h; cases g with | zero => exact nomatch (show Empty from s) | succ g => omega : False)) h).elim⟩
  | succ d ih =>
    have C_altogether : Has P w K mg base (d * 1 + 2) "altogether" ["saying"] (sp_altogether (d) w K) := ⟨_, _, ih, hm, F.kp, F.binds fun _ _ _ _ _ _ us hl => match us, hl with | [_], _ => rfl⟩
    exact (step_altogether d F T C_altogether C_straight_within).mono (by omega)
set_option maxHeartbeats 8000000 in
theorem ok_read_tone {f : Addr} {fd : FuncData} (F : Fun K "read_tone" "read_tone" s_read_tone f fd) (T : Txt K mg)  : FnOk P w K mg base (CXE P w) 1 f fd ["n", "text"] (sp_read_tone w K) := by
  refine F.okX sc_read_tone (fun vs H Q E h => ?_) (fun cdv A outer s H vs Q E hr h => ?_)
  · obtain ⟨n, t, rfl, n3, n24, sg, lt, q1, q2⟩ := h
    rfl
  · obtain ⟨n, t, rfl, n3, n24, sg, lt, q1, q2⟩ := h
    obtain ⟨c_ToneError, c_NoText, c_NoHalf, c_NoLeading, c_NoRow, c_Unknown, hm_ToneError, hm_NoText, hm_NoHalf, hm_NoLeading, hm_NoRow, hm_Unknown, ns_NoText, ex_NoText, xm_NoText, xo_NoText, k1_NoText, k2_NoText, k3_NoText⟩ := T.g_EXCS
    refine ⟨_, (@pss_cons _ _ _ _ _ (ps_setC (i := 2) sc_read_tone.nd rfl rfl (ys := []) (js := []) ⟨by rfl, of_decide_eq_true (by kernel_rfl), of_decide_eq_true (by kernel_rfl), by rfl, of_decide_eq_true (by kernel_rfl), of_decide_eq_true (by kernel_rfl), by rfl, of_decide_eq_true (by kernel_rfl)⟩ rfl (pi_range1 rfl T.b_range (@pa_cons _ _ _ _ _ (pv 0) pa_nil (by rfl))) (fun _ _ _ _ _ => pts_nil) (fun _ _ _ _ _ => (pe_callTy call_strI (by rfl) T.b_str PyProof.Rows.boot_str (@pa_cons _ _ _ _ _ (pv 0) pa_nil (by rfl)))))
      (@pss_cons _ _ _ _ _ (@ps_if _ _ _ _ _ _ _ _ (@pt_cmpR _ _ _ _ _ _ _ _ op_notIn_seq (pv 1) (pv 2) rfl)
        (@pss_one _ _ _ (ps_raise rfl rfl ⟨rfl, rfl⟩ (fun _ _ z => z) (by rfl) hm_NoText ex_NoText PySem.F.excBase_ValueError (pe_joined (pj_cons pe_str (pj_cons (pe_fint (pv 0)) (pj_cons pe_str (pj_cons (pe_frep (pv 1)) pj_nil)))))))
        pss_nil)
      (@pss_one _ _ _ (@ps_ret _ _ _ _ (pe_bm PySem.F.plainAttrs_list PySem.F.slot_list_index PySem.F.type_list_index (mt_index hr.units) (pv 2) (@pa_cons _ _ _ _ _ (pv 1) pa_nil (by rfl))))))), ?_⟩
    refine ⟨_, rfl, n, rfl, by omega, by omega, comp_grow (rng n) V.int (fun _ => true) iS (fun _ v t => v = V.str t) (fun _ _ _ _ _ r => r) (it_range H 0 n.toNat) (fun b H' _ _ Q2 h => h H' (Same.refl _)) (fun b H' hx _ _ Q2 h => ⟨_, rfl, b, rfl, ⟨(rng_mem.mp hx).1, by have := (rng_mem.mp hx).2; omega⟩, h _ H' (Same.refl _) rfl⟩) (by rw [rng_len]; exact fit_big (by omega)) fun W ws H1 hW s1 hL pr => ?_⟩
    rw [filter_all] at pr
    have e := prd_map pr
    subst e
    cases hx : numT n t with
    | none =>
      have nm := numT_none.mp hx
      refine ⟨_, rfl, _, rfl, W, _, rfl, .inl (SqL.of hL), rfl, flat_strs _, _, rfl, ifp ?_ ?_⟩
      · show (!inV (V.str t) (((rng n).map iS).map V.str)) = true
        rw [inV_str, decide_eq_false nm]
        rfl
      have z1 : (Str.empty ++ Str.ofString "no tone of a wheel of ").length ≤ 0 + 22 := slen2 (by decide +kernel) (by decide +kernel)
      have z2 := slen2 z1 (iS_len (i := n) (by omega) (k := 2) (by decide) (by omega))
      have z3 := slen2 z2 (show (Str.ofString " tones: ").length ≤ 8 by decide +kernel)
      have rl := rep_len sg lt
      have z4 := slen2 z3 rl
      exact ⟨_, rfl, fit_big (Nat.le_trans z1 (by decide)), _, rfl, n, rfl, lg_smaller n24 (by omega), _, rfl, fit_big (Nat.le_trans z2 (by decide)), _, rfl, fit_big (Nat.le_trans z3 (by decide)), _, rfl, t, rfl, fit_big (Nat.le_trans rl (by decide)), _, rfl, fit_big (Nat.le_trans z4 (by decide)), fit_big (Nat.le_trans z4 (by decide)), q2 hx H1 s1 _ ns_NoText⟩
    | some x =>
      obtain ⟨⟨x0, xn⟩, ext⟩ := (numT_some n24).mp hx
      subst ext
      have mem : iS x ∈ (rng n).map iS := List.mem_map.mpr ⟨x, rng_mem.mpr ⟨x0, xn⟩, rfl⟩
      refine ⟨_, rfl, _, rfl, W, _, rfl, .inl (SqL.of hL), rfl, flat_strs _, _, rfl, ifn ?_ ?_⟩
      · show (!inV (V.str (iS x)) (((rng n).map iS).map V.str)) = false
        rw [inV_str, decide_eq_true mem]
        rfl
      refine ⟨_, rfl, .inl ⟨rfl, _, SqL.of hL⟩, _, rfl, W, (rng n).map iS, iS x, x.toNat, rfl, rfl, SqL.of hL, ?_, fun m hm z => ?_, ?_⟩
      · rw [List.getElem?_map, rng_get n (by omega)]
        show some (iS (0 + ((x.toNat : Nat) : Int))) = _
        rw [show (0 + ((x.toNat : Nat) : Int)) = x by omega]
      · rw [List.getElem?_map, rng_get n (by omega)] at z
        have := iS_inj ⟨by omega, by omega⟩ ⟨x0, by omega⟩ (Option.some.inj z)
        omega
      · rw [show ((x.toNat : Nat) : Int) = x by omega]
        exact q1 x hx H1 s1
set_option maxHeartbeats 8000000 in
theorem ok_read_change {f : Addr} {fd : FuncData} (F : Fun K "read_change" "read_change" s_read_change f fd) (T : Txt K mg) (C_read_tone : HasX P w K mg base 1 "read_tone" ["n", "text"] (sp_read_tone w K)) : FnOk P w K mg base (CXE P w) 2 f fd ["n", "text"] (sp_read_change w K) := by
  refine F.okX sc_read_change (fun vs H Q E h => ?_) (fun cdv A outer s H vs Q E hr h => ?_)
  · obtain ⟨n, t, rfl, n3, n24, sg, lt, q1, q2⟩ := h
    rfl
  · obtain ⟨n, t, rfl, n3, n24, sg, lt, q1, q2⟩ := h
    obtain ⟨c_ToneError, c_NoText, c_NoHalf, c_NoLeading, c_NoRow, c_Unknown, hm_ToneError, hm_NoText, hm_NoHalf, hm_NoLeading, hm_NoRow, hm_Unknown, ns_NoText, ex_NoText, xm_NoText, xo_NoText, k1_NoText, k2_NoText, k3_NoText⟩ := T.g_EXCS
    refine ⟨_, (@pss_cons _ _ _ _ _ (@ps_set _ _ 2 _ _ _ _ sc_read_change.nd rfl (Or.inl rfl) (pe_callP (E := E) C_read_tone (hr.mono (by decide)) rfl (@pa_cons _ _ _ _ _ (pv 0) (@pa_cons _ _ _ _ _ (pe_slice sl_str (pv 1) (po_some pe_int) po_none) pa_nil (by rfl)) (by rfl)) (goes_fn rfl ⟨rfl, rfl⟩ (fun _ _ z => z))) (by rfl) (by first | exact Or.inl rfl | exact Or.inr rfl))
      (@pss_cons _ _ _ _ _ (@ps_if _ _ _ _ _ _ _ _ (pt_val (pe_bm PySem.F.plainAttrs_str PySem.F.slot_str_startswith PySem.F.type_str_startswith mt_starts (pv 1) (@pa_cons _ _ _ _ _ pe_str pa_nil (by rfl))))
        (@pss_one _ _ _ (@ps_ret _ _ _ _ (@pe_tup _ _ _ _ _ (@pa_cons _ _ _ _ _ pe_str (@pa_cons _ _ _ _ _ (pv 2) pa_nil (by rfl)) (by rfl)))))
        pss_nil)
      (@pss_cons _ _ _ _ _ (@ps_if _ _ _ _ _ _ _ _ (pt_val (pe_bm PySem.F.plainAttrs_str PySem.F.slot_str_startswith PySem.F.type_str_startswith mt_starts (pv 1) (@pa_cons _ _ _ _ _ pe_str pa_nil (by rfl))))
        (@pss_one _ _ _ (@ps_ret _ _ _ _ (@pe_tup _ _ _ _ _ (@pa_cons _ _ _ _ _ pe_str (@pa_cons _ _ _ _ _ (pv 2) pa_nil (by rfl)) (by rfl)))))
        pss_nil)
      (@pss_one _ _ _ (ps_raise rfl rfl ⟨rfl, rfl⟩ (fun _ _ z => z) (by rfl) hm_NoText ex_NoText PySem.F.excBase_ValueError (pe_joined (pj_cons pe_str (pj_cons (pe_frep (pv 1)) pj_nil)))))))), ?_⟩
    refine ⟨_, rfl, _, rfl, _, rfl, _, rfl, fit_big (by omega), n, _, rfl, n3, n24, cut_signs sg, (by have := cut_len t (some 1) none; omega), fun m hm H1 s1 => ?_, fun hno H1 s1 C hC => q2 (fun b m z => by have w := z.1; rw [hno] at w; cases w) H1 s1 C hC⟩
    refine ⟨_, rfl, rfl, _, _, rfl, rfl, _, rfl, ?_⟩
    cases ht : Txt.startswith t "t" with
    | true => exact ifp rfl ⟨_, rfl, two_fit, fun r r0 => q1 true m ⟨hm, .inl ⟨rfl, ht⟩⟩ r _ (s1.trans (Same.new r0)) upd_same⟩
    | false =>
      refine ifn rfl ⟨_, rfl, rfl, _, _, rfl, rfl, _, rfl, ?_⟩
      cases hm2 : Txt.startswith t "m" with
      | true => exact ifp rfl ⟨_, rfl, two_fit, fun r r0 => q1 false m ⟨hm, .inr ⟨rfl, ht, hm2⟩⟩ r _ (s1.trans (Same.new r0)) upd_same⟩
      | false =>
        refine ifn rfl ?_
        have z1 : (Str.empty ++ Str.ofString "a change begins with t or m: ").length ≤ 0 + 40 := slen2 (by decide +kernel) (by decide +kernel)
        have rl := rep_len sg lt
        have z2 := slen2 z1 rl
        refine ⟨_, rfl, fit_big (Nat.le_trans z1 (by decide)), _, rfl, t, rfl, fit_big (Nat.le_trans rl (by decide)), _, rfl, fit_big (Nat.le_trans z2 (by decide)), fit_big (Nat.le_trans z2 (by decide)), q2 (fun b m' z => ?_) H1 s1 _ ns_NoText⟩
        rcases z.2 with ⟨_, w⟩ | ⟨_, _, w⟩
        · rw [ht] at w; cases w
        · rw [hm2] at w; cases w
set_option maxHeartbeats 8000000 in
theorem ok_end_of_figures {f : Addr} {fd : FuncData} (F : Fun K "end_of_figures" "end_of_figures" s_end_of_figures f fd) (T : Txt K mg)  : FnOk P w K mg base CX0 1 f fd ["text", "place"] (sp_end_of_figures w K) := by
  refine F.ok sc_end_of_figures (fun vs H Q E h => ?_) (fun cdv A outer s H vs Q E hr h => ?_)
  · obtain ⟨t, p, rfl, lt, q⟩ := h
    rfl
  · obtain ⟨t, p, rfl, lt, q⟩ := h
    obtain ⟨u_FIGURES, hm_FIGURES, rv_FIGURES⟩ := T.g_FIGURES
    refine ⟨_, (@pss_cons _ _ _ _ _ (@ps_while _ _ _ _ _ _ PassesOwn.never (PW.pt (pw_and (@pt_cmpR _ _ _ _ _ _ _ _ op_lt (pv 1) (pe_callB call_len_str (by rfl) T.b_len PySem.boot_len (@pa_cons _ _ _ _ _ (pv 0) pa_nil (by rfl))) (nomark _)) (pw_and1 (@pt_cmpR _ _ _ _ _ _ _ _ op_in_str (@pe_ix _ _ _ _ _ _ _ ix_str (pv 0) (pv 1) (fun _ _ => rfl)) (pe_glob (v := V.str "0123456789") (by rfl) hm_FIGURES rv_FIGURES) rfl))))
        (@pss_one _ _ _ (ps_aug (i := 1) sc_end_of_figures.nd rfl (Or.inl rfl) pe_int ip_add)))
      (@pss_one _ _ _ (@ps_ret _ _ _ _ (pv 1)))), ?_⟩
    have tl : t.cps.toList.length = t.length := by simp [Str.length]
    refine ⟨fun m σ G => ∃ j, j ≤ nfig (t.cps.toList.drop p) ∧ σ = [some (.str t), some (.int ((p + j : Nat) : Int))] ∧ G = H ∧ m = nfig (t.cps.toList.drop p) - j, ⟨_, 0, Nat.zero_le _, rfl, rfl, rfl⟩, ?_⟩
    rintro m σ G ⟨j, hj, rfl, rfl, rfl⟩
    have fin : nfig (t.cps.toList.drop p) ≤ j → Q (.int ((p + j : Nat) : Int)) G := fun h => by
      have e : nfig (t.cps.toList.drop p) = j := Nat.le_antisymm h hj
      rw [e] at q
      exact q
    refine ⟨_, rfl, _, rfl, t, rfl, fit_big (by omega), _, _, rfl, rfl, _, rfl, if2 (fun e => ?_) (fun e => ifn rfl ⟨_, rfl, fin ?_⟩)⟩
    · have e := of_decide_eq_true e
      have hlt : p + j < t.cps.toList.length := by omega
      obtain ⟨c, hc⟩ : ∃ c, t.cps.toList[p + j]? = some c := ⟨_, List.getElem?_eq_getElem hlt⟩
      have hd : (t.cps.toList.drop p)[j]? = some c := by rw [List.getElem?_drop]; exact hc
      refine ⟨_, rfl, _, rfl, t, _, c, rfl, rfl, fit_big (by omega), atI_nat hc, _, _, rfl, rfl, _, rfl, ?_⟩
      rw [fig_in c]
      refine if2 (fun e2 => ?_) (fun e2 => ?_)
      · have hj2 : j < nfig (t.cps.toList.drop p) := by
          refine Nat.lt_of_le_of_ne hj fun z => ?_
          have := nfig_end (t.cps.toList.drop p) c (by rw [← z]; exact hd)
          rw [this] at e2
          cases e2
        refine ⟨fun σ' H' => σ' = [some (.str t), some (.int ((p + (j + 1) : Nat) : Int))] ∧ H' = G, fun σ' H' ⟨h1, h2⟩ => ⟨_, ?_, j + 1, hj2, h1, h2, rfl⟩, ?_⟩
        · omega
        · exact ⟨_, rfl, _, _, rfl, rfl, rfl, rfl⟩
      · refine ⟨_, rfl, fin ?_⟩
        refine Nat.le_of_not_lt fun z => ?_
        obtain ⟨d, hd2, f⟩ := nfig_at _ _ z
        rw [hd] at hd2
        cases hd2
        rw [f] at e2
        cases e2
    · have e := of_decide_eq_false e
      have := nfig_le (t.cps.toList.drop p)
      rw [List.length_drop] at this
      omega
set_option maxHeartbeats 8000000 in
theorem ok_read_many {f : Addr} {fd : FuncData} (F : Fun K "read_many" "read_many" s_read_many f fd) (T : Txt K mg)  : FnOk P w K mg base (CXE P w) 1 f fd ["figures"] (sp_read_many w K) := by
  refine F.okX sc_read_many (fun vs H Q E h => ?_) (fun cdv A outer s H vs Q E hr h => ?_)
  · obtain ⟨f, rfl, sg, lt, hf, q1, q2⟩ := h
    rfl
  · obtain ⟨f, rfl, sg, lt, hf, q1, q2⟩ := h
    obtain ⟨c_ToneError, c_NoText, c_NoHalf, c_NoLeading, c_NoRow, c_Unknown, hm_ToneError, hm_NoText, hm_NoHalf, hm_NoLeading, hm_NoRow, hm_Unknown, ns_NoText, ex_NoText, xm_NoText, xo_NoText, k1_NoText, k2_NoText, k3_NoText⟩ := T.g_EXCS
    refine ⟨_, (@pss_cons _ _ _ _ _ (@ps_if _ _ _ _ _ _ _ _ (PW.pt (pw_or (@pt_cmpR _ _ _ _ _ _ _ _ op_eq (pv 0) pe_str (nomark _)) (pw_or1 (PW.pt (pw_and (pt_val (pe_bm PySem.F.plainAttrs_str PySem.F.slot_str_startswith PySem.F.type_str_startswith mt_starts (pv 0) (@pa_cons _ _ _ _ _ pe_str pa_nil (by rfl)))) (pw_and1 (@pt_cmpR _ _ _ _ _ _ _ _ op_ne (pv 0) pe_str (nomark _))))))))
        (@pss_one _ _ _ (ps_raise rfl rfl ⟨rfl, rfl⟩ (fun _ _ z => z) (by rfl) hm_NoText ex_NoText PySem.F.excBase_ValueError (pe_joined (pj_cons pe_str (pj_cons (pe_frep (pv 0)) pj_nil)))))
        pss_nil)
      (@pss_cons _ _ _ _ _ (@ps_if _ _ _ _ _ _ _ _ (PW.pt (pw_or (@pt_cmpR _ _ _ _ _ _ _ _ op_gt (pe_callB call_len_str (by rfl) T.b_len PySem.boot_len (@pa_cons _ _ _ _ _ (pv 0) pa_nil (by rfl))) pe_int (nomark _)) (pw_or1 (@pt_cmpR _ _ _ _ _ _ _ _ op_gt (pe_callTy call_intT (by rfl) T.b_int PyProof.Rows.boot_int (@pa_cons _ _ _ _ _ (pv 0) pa_nil (by rfl))) (@pe_op _ _ _ _ _ _ _ _ op_pow pe_int pe_int) (nomark _)))))
        (@pss_one _ _ _ (ps_raise rfl rfl ⟨rfl, rfl⟩ (fun _ _ z => z) (by rfl) hm_NoText ex_NoText PySem.F.excBase_ValueError (pe_joined (pj_cons pe_str (pj_cons (pe_frep (pv 0)) pj_nil)))))
        pss_nil)
      (@pss_one _ _ _ (@ps_ret _ _ _ _ (pe_callTy call_intT (by rfl) T.b_int PyProof.Rows.boot_int (@pa_cons _ _ _ _ _ (pv 0) pa_nil (by rfl))))))), ?_⟩
    have rl := rep_len sg lt
    have tl : f.cps.toList.length = f.length := by simp [Str.length]
    have z1 : (Str.empty ++ Str.ofString "no number without a nought ahead of another figure: ").length ≤ 0 + 60 := slen2 (by decide +kernel) (by decide +kernel)
    have z2 := slen2 z1 rl
    have y1 : (Str.empty ++ Str.ofString "a saying is done at most 10 ** 30 times: ").length ≤ 0 + 60 := slen2 (by decide +kernel) (by decide +kernel)
    have y2 := slen2 y1 rl
    have e0 : decide (V.str f = V.str (Str.ofString "")) = decide (f.cps.toList = []) := by
      rw [decide_eq_decide]
      constructor
      · intro h
        rw [V.str.inj h]
        decide +kernel
      · intro h
        have : f.cps = #[] := by rw [← Array.toArray_toList (xs := f.cps), h]
        congr 1
        rcases f with ⟨c⟩
        simp only at this
        rw [this]
        rfl
    have e1 : Txt.startswith f (Str.ofString "0") = decide (f.cps.toList.head? = some 48) := by
      rw [show (Str.ofString "0") = ⟨#[48]⟩ by decide +kernel]
      exact starts_one f 48
    have e2 : decide (V.str f = V.str (Str.ofString "0")) = decide (f.cps.toList = [48]) := by
      rw [decide_eq_decide]
      constructor
      · intro h
        rw [V.str.inj h]
        decide +kernel
      · intro h
        have : f.cps = #[48] := by rw [← Array.toArray_toList (xs := f.cps), h]
        congr 1
        rcases f with ⟨c⟩
        simp only at this
        rw [this]
        decide +kernel
    refine ⟨_, rfl, rfl, _, rfl, ?_⟩
    rw [e0]
    by_cases h1 : f.cps.toList = []
    · rw [decide_eq_true h1]
      have hA : f.cps.toList = [] ∨ (f.cps.toList.head? = some 48 ∧ f.cps.toList ≠ [48]) := .inl h1
      refine ifp rfl (ifp rfl ?_)
      exact ⟨_, rfl, fit_big (Nat.le_trans z1 (by decide)), _, rfl, f, rfl, fit_big (Nat.le_trans rl (by decide)), _, rfl, fit_big (Nat.le_trans z2 (by decide)), fit_big (Nat.le_trans z2 (by decide)), q2 (if_pos hA) H (Same.refl _) _ ns_NoText⟩
    · rw [decide_eq_false h1]
      refine ifn rfl ⟨_, rfl, rfl, _, _, rfl, rfl, _, rfl, ?_⟩
      rw [e1]
      by_cases h2 : f.cps.toList.head? = some 48
      · rw [decide_eq_true h2]
        refine ifp rfl ⟨_, rfl, rfl, _, rfl, ?_⟩
        rw [e2]
        by_cases h3 : f.cps.toList = [48]
        · rw [decide_eq_true h3]
          have hA : ¬ (f.cps.toList = [] ∨ (f.cps.toList.head? = some 48 ∧ f.cps.toList ≠ [48])) := fun z => z.elim h1 fun y => y.2 h3
          refine ifn rfl ?_
          have mf : manyF f = if 31 < f.length then none else if (10 : Int) ^ 30 < (NumText.digitsVal f.cps.toList : Int) then none else some (NumText.digitsVal f.cps.toList : Int) := if_neg hA
          refine ⟨_, rfl, f, rfl, fit_big (by omega), _, _, rfl, rfl, _, rfl, if2 (fun e => ifp rfl ?_) (fun e => ?_)⟩
          · have e := of_decide_eq_true e
            exact ⟨_, rfl, fit_big (Nat.le_trans y1 (by decide)), _, rfl, f, rfl, fit_big (Nat.le_trans rl (by decide)), _, rfl, fit_big (Nat.le_trans y2 (by decide)), fit_big (Nat.le_trans y2 (by decide)), q2 (by rw [mf]; exact if_pos (by omega)) H (Same.refl _) _ ns_NoText⟩
          · have e := of_decide_eq_false e
            have it := intText_digits (x := f) (fun c hc => of_decide_eq_true (hf c hc)) (fun z => hA (.inl z)) (by omega)
            refine ⟨_, rfl, f, _, rfl, it, by omega, _, _, rfl, rfl, pow_ok (by decide) (by decide), _, _, rfl, rfl, _, rfl, if2 (fun e2 => ?_) (fun e2 => ?_)⟩
            · have e2 : (10 : Int) ^ 30 < (NumText.digitsVal f.cps.toList : Int) := of_decide_eq_true e2
              exact ⟨_, rfl, fit_big (Nat.le_trans y1 (by decide)), _, rfl, f, rfl, fit_big (Nat.le_trans rl (by decide)), _, rfl, fit_big (Nat.le_trans y2 (by decide)), fit_big (Nat.le_trans y2 (by decide)), q2 (by rw [mf, if_neg (by omega)]; exact if_pos e2) H (Same.refl _) _ ns_NoText⟩
            · have e2 : ¬ (10 : Int) ^ 30 < (NumText.digitsVal f.cps.toList : Int) := of_decide_eq_false e2
              exact ⟨_, rfl, f, _, rfl, it, by omega, q1 _ (by rw [mf, if_neg (by omega)]; exact if_neg e2)⟩
        · rw [decide_eq_false h3]
          have hA : f.cps.toList = [] ∨ (f.cps.toList.head? = some 48 ∧ f.cps.toList ≠ [48]) := .inr ⟨h2, h3⟩
          refine ifp rfl ?_
          exact ⟨_, rfl, fit_big (Nat.le_trans z1 (by decide)), _, rfl, f, rfl, fit_big (Nat.le_trans rl (by decide)), _, rfl, fit_big (Nat.le_trans z2 (by decide)), fit_big (Nat.le_trans z2 (by decide)), q2 (if_pos hA) H (Same.refl _) _ ns_NoText⟩
      · rw [decide_eq_false h2]
        have hA : ¬ (f.cps.toList = [] ∨ (f.cps.toList.head? = some 48 ∧ f.cps.toList ≠ [48])) := fun z => z.elim h1 fun y => h2 y.1
        refine ifn rfl (ifn rfl ?_)
        have mf : manyF f = if 31 < f.length then none else if (10 : Int) ^ 30 < (NumText.digitsVal f.cps.toList : Int) then none else some (NumText.digitsVal f.cps.toList : Int) := if_neg hA
        refine ⟨_, rfl, f, rfl, fit_big (by omega), _, _, rfl, rfl, _, rfl, if2 (fun e => ifp rfl ?_) (fun e => ?_)⟩
        · have e := of_decide_eq_true e
          exact ⟨_, rfl, fit_big (Nat.le_trans y1 (by decide)), _, rfl, f, rfl, fit_big (Nat.le_trans rl (by decide)), _, rfl, fit_big (Nat.le_trans y2 (by decide)), fit_big (Nat.le_trans y2 (by decide)), q2 (by rw [mf]; exact if_pos (by omega)) H (Same.refl _) _ ns_NoText⟩
        · have e := of_decide_eq_false e
          have it := intText_digits (x := f) (fun c hc => of_decide_eq_true (hf c hc)) (fun z => hA (.inl z)) (by omega)
          refine ⟨_, rfl, f, _, rfl, it, by omega, _, _, rfl, rfl, pow_ok (by decide) (by decide), _, _, rfl, rfl, _, rfl, if2 (fun e2 => ?_) (fun e2 => ?_)⟩
          · have e2 : (10 : Int) ^ 30 < (NumText.digitsVal f.cps.toList : Int) := of_decide_eq_true e2
            exact ⟨_, rfl, fit_big (Nat.le_trans y1 (by decide)), _, rfl, f, rfl, fit_big (Nat.le_trans rl (by decide)), _, rfl, fit_big (Nat.le_trans y2 (by decide)), fit_big (Nat.le_trans y2 (by decide)), q2 (by rw [mf, if_neg (by omega)]; exact if_pos e2) H (Same.refl _) _ ns_NoText⟩
          · have e2 : ¬ (10 : Int) ^ 30 < (NumText.digitsVal f.cps.toList : Int) := of_decide_eq_false e2
            exact ⟨_, rfl, f, _, rfl, it, by omega, q1 _ (by rw [mf, if_neg (by omega)]; exact if_neg e2)⟩
set_option maxHeartbeats 8000000 in
theorem ok_read_whole (d : Nat) {f : Addr} {fd : FuncData} (F : Fun K "read_whole" "read_whole" s_read_whole f fd) (T : Txt K mg) (C_end_of_figures : Has P w K mg base 1 "end_of_figures" ["text", "place"] (sp_end_of_figures w K)) (C_read_many : HasX P w K mg base 1 "read_many" ["figures"] (sp_read_many w K)) (C_read_without_number : HasX P w K mg base (d * 3 + 5) "read_without_number" ["n", "text", "place", "room"] (sp_read_without_number (d) w K)) : FnOk P w K mg base (CXE P w) (d * 3 + 6) f fd ["n", "text", "place", "room"] (sp_read_whole (d) w K) := by
  refine F.okX sc_read_whole (fun vs H Q E h => ?_) (fun cdv A outer s H vs Q E hr h => ?_)
  · obtain ⟨n, t, p, r, rfl, n3, n24, sg, lt, rd, q1, q2⟩ := h
    rfl
  · obtain ⟨n, t, p, r, rfl, n3, n24, sg, lt, rd, q1, q2⟩ := h
    refine ⟨_, (@pss_cons _ _ _ _ _ (@ps_set _ _ 4 _ _ _ _ sc_read_whole.nd rfl (Or.inl rfl) (pe_callP (E := E) C_read_without_number (hr.mono (by omega)) rfl (@pa_cons _ _ _ _ _ (pv 0) (@pa_cons _ _ _ _ _ (pv 1) (@pa_cons _ _ _ _ _ (pv 2) (@pa_cons _ _ _ _ _ (pv 3) pa_nil (by rfl)) (by rfl)) (by rfl)) (by rfl)) (goes_fn rfl ⟨rfl, rfl⟩ (fun _ _ z => z))) (by rfl) (by first | exact Or.inl rfl | exact Or.inr rfl))
      (@pss_cons _ _ _ _ _ (@ps_if _ _ _ _ _ _ _ _ (pt_not (pt_val (pe_bm PySem.F.plainAttrs_str PySem.F.slot_str_startswith PySem.F.type_str_startswith mt_starts3 (pv 1) (@pa_cons _ _ _ _ _ pe_str (@pa_cons _ _ _ _ _ (@pe_ix _ _ _ _ _ _ _ ix_tup (pv 4) pe_int (fun _ _ => rfl)) pa_nil (by rfl)) (by rfl)))))
        (@pss_one _ _ _ (@ps_ret _ _ _ _ (pv 4)))
        pss_nil)
      (@pss_cons _ _ _ _ _ (@ps_set _ _ 5 _ _ _ _ sc_read_whole.nd rfl (Or.inl rfl) (@pe_op _ _ _ _ _ _ _ _ op_add (@pe_ix _ _ _ _ _ _ _ ix_tup (pv 4) pe_int (fun _ _ => rfl)) pe_int) (by rfl) (by first | exact Or.inl rfl | exact Or.inr rfl))
      (@pss_cons _ _ _ _ _ (@ps_set _ _ 6 _ _ _ _ sc_read_whole.nd rfl (Or.inl rfl) (@pe_callH _ _ _ _ _ _ _ _ _ _ C_end_of_figures (hr.mono (by omega)) rfl (@pa_cons _ _ _ _ _ (pv 1) (@pa_cons _ _ _ _ _ (pv 5) pa_nil (by rfl)) (by rfl)) (by decide) (by rfl) (by rfl)) (by rfl) (by first | exact Or.inl rfl | exact Or.inr rfl))
      (@pss_one _ _ _ (@ps_ret _ _ _ _ (@pe_tup _ _ _ _ _ (@pa_cons _ _ _ _ _ (@pe_tup _ _ _ _ _ (@pa_cons _ _ _ _ _ pe_str (@pa_cons _ _ _ _ _ (@pe_ix _ _ _ _ _ _ _ ix_tup (pv 4) pe_int (fun _ _ => rfl)) (@pa_cons _ _ _ _ _ (pe_callP (E := E) C_read_many (hr.mono (by omega)) rfl (@pa_cons _ _ _ _ _ (pe_slice sl_str (pv 1) (po_some (pv 5)) (po_some (pv 6))) pa_nil (by rfl)) (goes_fn rfl ⟨rfl, rfl⟩ (fun _ _ z => z))) pa_nil (by rfl)) (by rfl)) (by rfl))) (@pa_cons _ _ _ _ _ (pv 6) pa_nil (by rfl)) (by rfl))))))))), ?_⟩
    refine ⟨_, rfl, _, rfl, _, rfl, _, rfl, n, t, p, r, rfl, n3, n24, sg, lt, rd, fun x hx v y H1 s1 rs hy => ?_, fun hno => q2 (by unfold whF; rw [hno])⟩
    have pu : whF t (wnF n t r) p = if Txt.startswith3 t "*" (x.2 : Int) = true then (match manyF (cutS t (some ((x.2 + 1 : Nat) : Int)) (some ((eof t (x.2 + 1) : Nat) : Int))) with | none => none | some m => some ((SyF.tm x.1 m : SyF (Sy (dw r))), eof t (x.2 + 1))) else some (up (dw r) x.1, x.2) := by
      unfold whF
      rw [hx]
    refine ⟨_, rfl, rfl, _, rfl, y, _, _, _, rfl, rfl, SqT.of hy, rfl, _, _, _, rfl, rfl, _, rfl, ?_⟩
    cases hs : Txt.startswith3 t (Str.ofString "*") (x.2 : Int) with
    | false =>
      refine ifp rfl ⟨_, rfl, q1 (up (dw r) x.1, x.2) (by rw [pu]; exact if_neg (by rw [hs]; exact Bool.false_ne_true)) v y H1 s1 (up_say _ _ _ rs) hy⟩
    | true =>
      refine ifn rfl ?_
      have pu2 : whF t (wnF n t r) p = (match manyF (cutS t (some ((x.2 + 1 : Nat) : Int)) (some ((eof t (x.2 + 1) : Nat) : Int))) with | none => none | some m => some ((SyF.tm x.1 m : SyF (Sy (dw r))), eof t (x.2 + 1))) := by
        rw [pu]
        exact if_pos hs
      refine ⟨_, rfl, y, _, _, _, rfl, rfl, SqT.of hy, rfl, _, _, rfl, rfl, ?_⟩
      refine ⟨_, rfl, _, rfl, t, x.2 + 1, rfl, by omega, ?_⟩
      refine ⟨_, rfl, y, _, _, _, rfl, rfl, SqT.of hy, rfl, _, rfl, _, rfl, _, rfl, _, rfl, _, rfl, _, rfl, fit_big (by omega), cutS t (some ((x.2 + 1 : Nat) : Int)) (some ((eof t (x.2 + 1) : Nat) : Int)), rfl, cut_sg sg _ _, (by have := cut_len t (some ((x.2 + 1 : Nat) : Int)) (some ((eof t (x.2 + 1) : Nat) : Int)); omega), cut_figs t (x.2 + 1), fun m hm => ?_, fun hno H2 s2 C hC => q2 (by rw [pu2, hno]) H2 (s1.trans s2) C hC⟩
      refine ⟨three_fit, fun r1 r10 => ⟨_, rfl, two_fit, fun r2 r20 => ?_⟩⟩
      have sR := (Same.new (o := .tup [V.str "times", v, .int m]) r10).trans (Same.new (o := .tup [.ref r1, .int ((eof t (x.2 + 1) : Nat) : Int)]) r20)
      exact q1 ((SyF.tm x.1 m : SyF (Sy (dw r))), eof t (x.2 + 1)) (by rw [pu2, hm]) (.ref r1) r2 _ (s1.trans sR) ⟨r1, v, rfl, Same.new r20 _ _ upd_same, SayR.mono sR.tk _ _ _ rs⟩ upd_same
set_option maxHeartbeats 8000000 in
theorem ok_read_row_behind_bracket (d : Nat) {f : Addr} {fd : FuncData} (F : Fun K "read_row_behind_bracket" "read_row_behind_bracket" s_read_row_behind_bracket f fd) (T : Txt K mg) (C_read_whole : HasX P w K mg base (d * 3 + 6) "read_whole" ["n", "text", "place", "room"] (sp_read_whole (d) w K)) : FnOk P w K mg base (CXE P w) (d * 3 + 7) f fd ["n", "text", "place", "room"] (sp_read_row_behind_bracket (d) w K) := by
  refine F.okX sc_read_row_behind_bracket (fun vs H Q E h => ?_) (fun cdv A outer s H vs Q E hr h => ?_)
  · obtain ⟨n, t, p, r, rfl, n3, n24, sg, lt, rd, q1, q2⟩ := h
    rfl
  · obtain ⟨n, t, p, r, rfl, n3, n24, sg, lt, rd, q1, q2⟩ := h
    obtain ⟨c_ToneError, c_NoText, c_NoHalf, c_NoLeading, c_NoRow, c_Unknown, hm_ToneError, hm_NoText, hm_NoHalf, hm_NoLeading, hm_NoRow, hm_Unknown, ns_NoText, ex_NoText, xm_NoText, xo_NoText, k1_NoText, k2_NoText, k3_NoText⟩ := T.g_EXCS
    refine ⟨_, (@pss_cons _ _ _ _ _ (@ps_if _ _ _ _ _ _ _ _ (pt_val (pe_bm PySem.F.plainAttrs_str PySem.F.slot_str_startswith PySem.F.type_str_startswith mt_starts3 (pv 1) (@pa_cons _ _ _ _ _ pe_str (@pa_cons _ _ _ _ _ (pv 2) pa_nil (by rfl)) (by rfl))))
        (@pss_one _ _ _ (@ps_ret _ _ _ _ (@pe_tup _ _ _ _ _ (@pa_cons _ _ _ _ _ (@pe_tup _ _ _ _ _ (@pa_cons _ _ _ _ _ pe_str (@pa_cons _ _ _ _ _ (@pe_tup _ _ _ _ _ pa_nil) pa_nil (by rfl)) (by rfl))) (@pa_cons _ _ _ _ _ (@pe_op _ _ _ _ _ _ _ _ op_add (pv 2) pe_int) pa_nil (by rfl)) (by rfl)))))
        pss_nil)
      (@pss_cons _ _ _ _ _ (@ps_set _ _ 4 _ _ _ _ sc_read_row_behind_bracket.nd rfl (Or.inl rfl) (pe_callP (E := E) C_read_whole (hr.mono (by omega)) rfl (@pa_cons _ _ _ _ _ (pv 0) (@pa_cons _ _ _ _ _ (pv 1) (@pa_cons _ _ _ _ _ (pv 2) (@pa_cons _ _ _ _ _ (pv 3) pa_nil (by rfl)) (by rfl)) (by rfl)) (by rfl)) (goes_fn rfl ⟨rfl, rfl⟩ (fun _ _ z => z))) (by rfl) (by first | exact Or.inl rfl | exact Or.inr rfl))
      (@pss_cons _ _ _ _ _ (@ps_set _ _ 5 _ _ _ _ sc_read_row_behind_bracket.nd rfl (Or.inl rfl) (@pe_lst _ _ _ _ (@pa_cons _ _ _ _ _ (@pe_ix _ _ _ _ _ _ _ ix_tup (pv 4) pe_int (fun _ _ => rfl)) pa_nil (by rfl))) (by rfl) (by first | exact Or.inl rfl | exact Or.inr rfl))
      (@pss_cons _ _ _ _ _ (@ps_while _ _ _ _ _ _ PassesOwn.leaving (pt_val (pe_bm PySem.F.plainAttrs_str PySem.F.slot_str_startswith PySem.F.type_str_startswith mt_starts3 (pv 1) (@pa_cons _ _ _ _ _ pe_str (@pa_cons _ _ _ _ _ (@pe_ix _ _ _ _ _ _ _ ix_tup (pv 4) pe_int (fun _ _ => rfl)) pa_nil (by rfl)) (by rfl))))
        (@pss_cons _ _ _ _ _ (@ps_set _ _ 4 _ _ _ _ sc_read_row_behind_bracket.nd rfl (Or.inl rfl) (pe_callP (E := E) C_read_whole (hr.mono (by omega)) rfl (@pa_cons _ _ _ _ _ (pv 0) (@pa_cons _ _ _ _ _ (pv 1) (@pa_cons _ _ _ _ _ (@pe_op _ _ _ _ _ _ _ _ op_add (@pe_ix _ _ _ _ _ _ _ ix_tup (pv 4) pe_int (fun _ _ => rfl)) pe_int) (@pa_cons _ _ _ _ _ (pv 3) pa_nil (by rfl)) (by rfl)) (by rfl)) (by rfl)) (goes_fn rfl ⟨rfl, rfl⟩ (fun _ _ z => z))) (by rfl) (by first | exact Or.inl rfl | exact Or.inr rfl))
        (@pss_one _ _ _ (ps_expr (pe_bm PySem.F.plainAttrs_list PySem.F.slot_list_append PySem.F.type_list_append mt_append (pv 5) (@pa_cons _ _ _ _ _ (@pe_ix _ _ _ _ _ _ _ ix_tup (pv 4) pe_int (fun _ _ => rfl)) pa_nil (by rfl)))))))
      (@pss_cons _ _ _ _ _ (@ps_if _ _ _ _ _ _ _ _ (pt_not (pt_val (pe_bm PySem.F.plainAttrs_str PySem.F.slot_str_startswith PySem.F.type_str_startswith mt_starts3 (pv 1) (@pa_cons _ _ _ _ _ pe_str (@pa_cons _ _ _ _ _ (@pe_ix _ _ _ _ _ _ _ ix_tup (pv 4) pe_int (fun _ _ => rfl)) pa_nil (by rfl)) (by rfl)))))
        (@pss_one _ _ _ (ps_raise rfl rfl ⟨rfl, rfl⟩ (fun _ _ z => z) (by rfl) hm_NoText ex_NoText PySem.F.excBase_ValueError (pe_joined (pj_cons pe_str (pj_cons (pe_frep (pv 1)) pj_nil)))))
        pss_nil)
      (@pss_one _ _ _ (@ps_ret _ _ _ _ (@pe_tup _ _ _ _ _ (@pa_cons _ _ _ _ _ (@pe_tup _ _ _ _ _ (@pa_cons _ _ _ _ _ pe_str (@pa_cons _ _ _ _ _ (pe_callTy call_tuple_of (by rfl) T.b_tuple PyProof.Rows.boot_tuple (@pa_cons _ _ _ _ _ (pv 5) pa_nil (by rfl))) pa_nil (by rfl)) (by rfl))) (@pa_cons _ _ _ _ _ (@pe_op _ _ _ _ _ _ _ _ op_add (@pe_ix _ _ _ _ _ _ _ ix_tup (pv 4) pe_int (fun _ _ => rfl)) pe_int) pa_nil (by rfl)) (by rfl)))))))))), ?_⟩
    obtain ⟨f, ef⟩ : ∃ f : Nat → Option (Sy (dw r + 1) × Nat), f = whF t (wnF n t r) := ⟨_, rfl⟩
    have fm : ∀ p x, f p = some x → p ≤ x.2 := fun p x h => whF_mono (fun p x h => wnF_mono r p x h) (by rw [← ef]; exact h)
    rw [← ef] at q1 q2
    have q2 := q2
    refine ⟨_, rfl, rfl, _, rfl, _, _, _, rfl, rfl, _, rfl, ?_⟩
    cases hs : Txt.startswith3 t (Str.ofString ")") (p : Int) with
    | true =>
      refine ifp rfl ⟨(by show 0 ≤ sizeLine; decide), fun r1 r10 => ⟨two_fit, fun r2 r20 => ⟨_, rfl, _, _, rfl, rfl, two_fit, fun r3 r30 => ?_⟩⟩⟩
      have sR := (Same.new (o := .tup []) r10).trans ((Same.new (o := .tup [V.str "row", .ref r1]) r20).trans (Same.new (o := .tup [.ref r2, .int ((p + 1 : Nat) : Int)]) r30))
      exact q1 ([], p + 1) (if_pos hs) (.ref r2) r3 _ sR ⟨r2, r1, [], rfl, Same.new r30 _ _ upd_same, ((Same.new (o := .tup [V.str "row", .ref r1]) r20).trans (Same.new (o := .tup [.ref r2, .int ((p + 1 : Nat) : Int)]) r30)) _ _ upd_same, .nil⟩ upd_same
    | false =>
      refine ifn rfl ?_
      refine ⟨_, rfl, _, rfl, _, rfl, _, rfl, n, t, p, r, rfl, n3, n24, sg, lt, rd, fun x hx v y H1 s1 rs hy => ?_, fun hno => q2 (rowF_none hs (rowL_none (by rw [ef]; exact hno)))⟩
      rw [← ef] at hx
      refine ⟨_, rfl, y, _, _, _, rfl, rfl, SqT.of hy, rfl, (by show 1 ≤ sizeLine; decide), fun L L0 => ?_⟩
      have L0' : H L = none := s1.free L0
      refine ⟨fun m σ G => ∃ (x : Sy (dw r + 1) × Nat) (y : Addr) (v : V) (us : List V) (ss : List (Sy (dw r + 1))), σ = [some (.int n), some (.str t), some (.int (p : Int)), some (.int (r : Int)), some (.ref y), some (.ref L)] ∧ Same H G ∧ G y = some (.tup [v, .int ((x.2 : Nat) : Int)]) ∧ G L = some (.lst us) ∧ Paired (SayR G (dw r + 1)) us ss ∧ us.length + m ≤ t.length + 1 ∧ t.length - x.2 ≤ m ∧ rowL t f (t.length + 1) p = (rowC t f m x.2).map fun z => (ss ++ z.1, z.2), ⟨t.length, x, y, v, [v], [x.1], rfl, s1.trans (Same.new L0), Same.new L0 _ _ hy, upd_same, .cons (SayR.mono (Same.new L0).tk _ _ _ rs) .nil, (by show 1 + t.length ≤ t.length + 1; omega), Nat.sub_le _ _, rowL_some hx⟩, ?_⟩
      rintro m σ G ⟨x, y, v, us, ss, rfl, sG, hy, hL, pr, lu, lm, tot⟩
      refine ⟨_, rfl, rfl, _, rfl, y, _, _, _, rfl, rfl, SqT.of hy, rfl, _, _, _, rfl, rfl, _, rfl, ?_⟩
      cases hb : Txt.startswith3 t (Str.ofString " ") (x.2 : Int) with
      | true =>
        have xl : x.2 < t.length := starts3_lt (c := 32) (by rw [← s_blank]; exact hb)
        obtain ⟨m, rfl⟩ : ∃ k, m = k + 1 := ⟨m - 1, by omega⟩
        have rc : rowC t f (m + 1) x.2 = rowL t f (m + 1) (x.2 + 1) := if_pos hb
        refine ifp rfl ⟨fun σ' H' => ∃ (x : Sy (dw r + 1) × Nat) (y : Addr) (v : V) (us : List V) (ss : List (Sy (dw r + 1))), σ' = [some (.int n), some (.str t), some (.int (p : Int)), some (.int (r : Int)), some (.ref y), some (.ref L)] ∧ Same H H' ∧ H' y = some (.tup [v, .int ((x.2 : Nat) : Int)]) ∧ H' L = some (.lst us) ∧ Paired (SayR H' (dw r + 1)) us ss ∧ us.length + m ≤ t.length + 1 ∧ t.length - x.2 ≤ m ∧ rowL t f (t.length + 1) p = (rowC t f m x.2).map fun z => (ss ++ z.1, z.2), fun σ' H' h => ⟨m, Nat.lt_succ_self m, h⟩, ?_⟩
        refine ⟨_, rfl, _, rfl, _, rfl, y, _, _, _, rfl, rfl, SqT.of hy, rfl, _, _, rfl, rfl, _, rfl, n, t, x.2 + 1, r, rfl, n3, n24, sg, lt, rd, fun x2 hx2 v2 y2 G2 s2 rs2 hy2 => ?_, fun hno G2 s2 C hC => q2 (rowF_none hs (by rw [tot, rc, rowL_none (by rw [ef]; exact hno)]; rfl)) G2 (sG.trans s2) C hC⟩
        rw [← ef] at hx2
        have ge := fm _ _ hx2
        have hL2 := s2 _ _ hL
        refine ⟨_, rfl, .inl ⟨rfl, _, SqL.of hL2⟩, _, rfl, y2, _, _, _, rfl, rfl, SqT.of hy2, rfl, L, us, v2, rfl, rfl, hL2, Nat.lt_of_lt_of_le (show us.length < 10000 by omega) (by decide), ?_⟩
        have tk : TupKeep G2 (upd G2 L (.lst (us ++ [v2]))) := TupKeep.upd fun xs z => by rw [hL2] at z; cases z
        refine ⟨x2, y2, v2, us ++ [v2], ss ++ [x2.1], rfl, (sG.trans s2).upd L0', tk _ _ hy2, upd_same, prd_append (prd_imp (fun a b q => SayR.mono (s2.tk.trans tk) _ _ _ q) pr) (.cons (SayR.mono tk _ _ _ rs2) .nil), ?_, by omega, ?_⟩
        · rw [List.length_append]
          show us.length + 1 + m ≤ t.length + 1
          omega
        · rw [tot, rc, rowL_some hx2, Option.map_map]
          congr 1
          funext z
          show (ss ++ (x2.1 :: z.1), z.2) = ((ss ++ [x2.1]) ++ z.1, z.2)
          rw [List.append_assoc]
          rfl
      | false =>
        refine ifn rfl ?_
        have rc : rowC t f m x.2 = some ([], x.2) := if_neg (by rw [hb]; exact Bool.false_ne_true)
        have tot : rowL t f (t.length + 1) p = some (ss, x.2) := by
          rw [tot, rc]
          show some (ss ++ [], x.2) = _
          rw [List.append_nil]
        have pu : rowF t f p = if Txt.startswith3 t ")" (x.2 : Int) = true then some (ss, x.2 + 1) else none := rowF_some hs tot
        refine ⟨_, rfl, rfl, _, rfl, y, _, _, _, rfl, rfl, SqT.of hy, rfl, _, _, _, rfl, rfl, _, rfl, ?_⟩
        cases hc : Txt.startswith3 t (Str.ofString ")") (x.2 : Int) with
        | false =>
          have rl := rep_len sg lt
          have z1 : (Str.empty ++ Str.ofString "a row of sayings does not shut: ").length ≤ 0 + 60 := slen2 (by decide +kernel) (by decide +kernel)
          have z2 := slen2 z1 rl
          refine ifp rfl ⟨_, rfl, fit_big (Nat.le_trans z1 (by decide)), _, rfl, t, rfl, fit_big (Nat.le_trans rl (by decide)), _, rfl, fit_big (Nat.le_trans z2 (by decide)), fit_big (Nat.le_trans z2 (by decide)), q2 (by rw [pu]; exact if_neg (by rw [hc]; exact Bool.false_ne_true)) G sG _ ns_NoText⟩
        | true =>
          refine ifn rfl ⟨_, rfl, L, us, rfl, .inl ⟨SqL.of hL, fun r1 r10 => ⟨two_fit, fun r2 r20 => ?_⟩⟩⟩
          have sR := (Same.new (o := .tup us) r10).trans (Same.new (o := .tup [V.str "row", .ref r1]) r20)
          refine ⟨_, rfl, y, _, _, _, rfl, rfl, SqT.of (sR _ _ hy), rfl, _, _, rfl, rfl, two_fit, fun r3 r30 => ?_⟩
          have s3 := Same.new (o := .tup [.ref r2, .int ((x.2 + 1 : Nat) : Int)]) r30
          exact q1 (ss, x.2 + 1) (by rw [pu]; exact if_pos hc) (.ref r2) r3 _ (sG.trans (sR.trans s3)) ⟨r2, r1, us, rfl, s3 _ _ upd_same, s3 _ _ (Same.new r20 _ _ upd_same), prd_imp (fun a b q => SayR.mono (sR.trans s3).tk _ _ _ q) pr⟩ upd_same
set_option maxHeartbeats 8000000 in
theorem step_read_without_number (d : Nat) {f : Addr} {fd : FuncData} (F : Fun K "read_without_number" "read_without_number" s_read_without_number f fd) (T : Txt K mg) (C_end_of_figures : Has P w K mg base 1 "end_of_figures" ["text", "place"] (sp_end_of_figures w K)) (C_read_change : HasX P w K mg base 2 "read_change" ["n", "text"] (sp_read_change w K)) (C_read_row_behind_bracket : HasX P w K mg base (d * 3 + 7) "read_row_behind_bracket" ["n", "text", "place", "room"] (sp_read_row_behind_bracket (d) w K)) (C_read_without_number : HasX P w K mg base (d * 3 + 5) "read_without_number" ["n", "text", "place", "room"] (sp_read_without_number (d) w K)) : FnOk P w K mg base (CXE P w) (d * 3 + 8) f fd ["n", "text", "place", "room"] (sp_read_without_number (d + 1) w K) := by
  refine F.okX sc_read_without_number (fun vs H Q E h => ?_) (fun cdv A outer s H vs Q E hr h => ?_)
  · obtain ⟨n, t, p, r, rfl, n3, n24, sg, lt, rd, q1, q2⟩ := h
    rfl
  · obtain ⟨n, t, p, r, rfl, n3, n24, sg, lt, rd, q1, q2⟩ := h
    obtain ⟨u_DEEPEST, hm_DEEPEST, rv_DEEPEST⟩ := T.g_DEEPEST
    obtain ⟨c_ToneError, c_NoText, c_NoHalf, c_NoLeading, c_NoRow, c_Unknown, hm_ToneError, hm_NoText, hm_NoHalf, hm_NoLeading, hm_NoRow, hm_Unknown, ns_NoText, ex_NoText, xm_NoText, xo_NoText, k1_NoText, k2_NoText, k3_NoText⟩ := T.g_EXCS
    refine ⟨_, (@pss_cons _ _ _ _ _ (@ps_if _ _ _ _ _ _ _ _ (@pt_cmpR _ _ _ _ _ _ _ _ op_eq (pv 3) pe_int (nomark _))
        (@pss_one _ _ _ (ps_raise rfl rfl ⟨rfl, rfl⟩ (fun _ _ z => z) (by rfl) hm_NoText ex_NoText PySem.F.excBase_ValueError (pe_joined (pj_cons pe_str (pj_cons (pe_fint (pe_glob (v := V.int 8) (by rfl) hm_DEEPEST rv_DEEPEST)) (pj_cons pe_str (pj_cons (pe_frep (pv 1)) pj_nil)))))))
        pss_nil)
      (@pss_cons _ _ _ _ _ (@ps_if _ _ _ _ _ _ _ _ (pt_val (pe_bm PySem.F.plainAttrs_str PySem.F.slot_str_startswith PySem.F.type_str_startswith mt_starts3 (pv 1) (@pa_cons _ _ _ _ _ pe_str (@pa_cons _ _ _ _ _ (pv 2) pa_nil (by rfl)) (by rfl))))
        (@pss_cons _ _ _ _ _ (@ps_set _ _ 4 _ _ _ _ sc_read_without_number.nd rfl (Or.inl rfl) (pe_callP (E := E) C_read_without_number (hr.mono (by omega)) rfl (@pa_cons _ _ _ _ _ (pv 0) (@pa_cons _ _ _ _ _ (pv 1) (@pa_cons _ _ _ _ _ (@pe_op _ _ _ _ _ _ _ _ op_add (pv 2) pe_int) (@pa_cons _ _ _ _ _ (@pe_op _ _ _ _ _ _ _ _ op_sub (pv 3) pe_int) pa_nil (by rfl)) (by rfl)) (by rfl)) (by rfl)) (goes_fn rfl ⟨rfl, rfl⟩ (fun _ _ z => z))) (by rfl) (by first | exact Or.inl rfl | exact Or.inr rfl))
        (@pss_one _ _ _ (@ps_ret _ _ _ _ (@pe_tup _ _ _ _ _ (@pa_cons _ _ _ _ _ (@pe_tup _ _ _ _ _ (@pa_cons _ _ _ _ _ pe_str (@pa_cons _ _ _ _ _ (@pe_ix _ _ _ _ _ _ _ ix_tup (pv 4) pe_int (fun _ _ => rfl)) pa_nil (by rfl)) (by rfl))) (@pa_cons _ _ _ _ _ (@pe_ix _ _ _ _ _ _ _ ix_tup (pv 4) pe_int (fun _ _ => rfl)) pa_nil (by rfl)) (by rfl))))))
        pss_nil)
      (@pss_cons _ _ _ _ _ (@ps_if _ _ _ _ _ _ _ _ (pt_val (pe_bm PySem.F.plainAttrs_str PySem.F.slot_str_startswith PySem.F.type_str_startswith mt_starts3 (pv 1) (@pa_cons _ _ _ _ _ pe_str (@pa_cons _ _ _ _ _ (pv 2) pa_nil (by rfl)) (by rfl))))
        (@pss_one _ _ _ (@ps_ret _ _ _ _ (pe_callP (E := E) C_read_row_behind_bracket (hr.mono (by omega)) rfl (@pa_cons _ _ _ _ _ (pv 0) (@pa_cons _ _ _ _ _ (pv 1) (@pa_cons _ _ _ _ _ (@pe_op _ _ _ _ _ _ _ _ op_add (pv 2) pe_int) (@pa_cons _ _ _ _ _ (@pe_op _ _ _ _ _ _ _ _ op_sub (pv 3) pe_int) pa_nil (by rfl)) (by rfl)) (by rfl)) (by rfl)) (goes_fn rfl ⟨rfl, rfl⟩ (fun _ _ z => z)))))
        pss_nil)
      (@pss_cons _ _ _ _ _ (@ps_set _ _ 5 _ _ _ _ sc_read_without_number.nd rfl (Or.inl rfl) (@pe_callH _ _ _ _ _ _ _ _ _ _ C_end_of_figures (hr.mono (by omega)) rfl (@pa_cons _ _ _ _ _ (pv 1) (@pa_cons _ _ _ _ _ (@pe_op _ _ _ _ _ _ _ _ op_add (pv 2) pe_int) pa_nil (by rfl)) (by rfl)) (by decide) (by rfl) (by rfl)) (by rfl) (by first | exact Or.inl rfl | exact Or.inr rfl))
      (@pss_one _ _ _ (@ps_ret _ _ _ _ (@pe_tup _ _ _ _ _ (@pa_cons _ _ _ _ _ (@pe_tup _ _ _ _ _ (@pa_cons _ _ _ _ _ pe_str (@pa_cons _ _ _ _ _ (pe_callP (E := E) C_read_change (hr.mono (by omega)) rfl (@pa_cons _ _ _ _ _ (pv 0) (@pa_cons _ _ _ _ _ (pe_slice sl_str (pv 1) (po_some (pv 2)) (po_some (pv 5))) pa_nil (by rfl)) (by rfl)) (goes_fn rfl ⟨rfl, rfl⟩ (fun _ _ z => z))) pa_nil (by rfl)) (by rfl))) (@pa_cons _ _ _ _ _ (pv 5) pa_nil (by rfl)) (by rfl))))))))), ?_⟩
    cases r with
    | zero =>
      have rl := rep_len sg lt
      have z1 : (Str.empty ++ Str.ofString "more than ").length ≤ 0 + 20 := slen2 (by decide +kernel) (by decide +kernel)
      have z2 : (Str.empty ++ Str.ofString "more than " ++ iS 8).length ≤ 0 + 20 + 2 := slen2 z1 (by decide +kernel)
      have z3 : (Str.empty ++ Str.ofString "more than " ++ iS 8 ++ Str.ofString " sayings within one another: ").length ≤ 0 + 20 + 2 + 40 := slen2 z2 (by decide +kernel)
      have z4 := slen2 z3 rl
      refine ⟨_, rfl, rfl, _, rfl, ifp (eqT rfl) ?_⟩
      exact ⟨_, rfl, fit_big (Nat.le_trans z1 (by decide)), 8, rfl, by decide, _, rfl, fit_big (Nat.le_trans z2 (by decide)), _, rfl, fit_big (Nat.le_trans z3 (by decide)), _, rfl, t, rfl, fit_big (Nat.le_trans rl (by decide)), _, rfl, fit_big (Nat.le_trans z4 (by decide)), fit_big (Nat.le_trans z4 (by decide)), q2 rfl H (Same.refl _) _ ns_NoText⟩
    | succ r =>
      refine ⟨_, rfl, rfl, _, rfl, ifn (eqF (by omega)) ?_⟩
      refine ⟨_, rfl, rfl, _, rfl, _, _, _, rfl, rfl, _, rfl, ?_⟩
      cases h1 : Txt.startswith3 t (Str.ofString "~") (p : Int) with
      | true =>
        have pu : wnF n t (r + 1) p = match wnF n t r (p + 1) with | none => none | some x => some ((SyF.un (up (dw r) x.1) : SyF (Sy (dw r + 1))), x.2) := if_pos h1
        refine ifp rfl ⟨_, rfl, _, rfl, _, rfl, _, _, rfl, rfl, _, rfl, _, _, rfl, rfl, n, t, p + 1, r, (by show [V.int n, V.str t, V.int ((p : Int) + 1), V.int (((r + 1 : Nat) : Int) - 1)] = [V.int n, V.str t, V.int ((p + 1 : Nat) : Int), V.int (r : Int)]; rw [show ((r + 1 : Nat) : Int) - 1 = (r : Int) by omega]; rfl), n3, n24, sg, lt, by omega, fun x hx v y H1 s1 rs hy => ?_, fun hno => q2 (by rw [pu, hno])⟩
        refine ⟨_, rfl, y, _, _, _, rfl, rfl, SqT.of hy, rfl, two_fit, fun r1 r10 => ⟨_, rfl, y, _, _, _, rfl, rfl, SqT.of (Same.new r10 _ _ hy), rfl, two_fit, fun r2 r20 => ?_⟩⟩
        have sR := (Same.new (o := .tup [V.str "undo", v]) r10).trans (Same.new (o := .tup [.ref r1, .int ((x.2 : Nat) : Int)]) r20)
        exact q1 ((SyF.un (up (dw r) x.1) : SyF (Sy (dw r + 1))), x.2) (by rw [pu, hx]) (.ref r1) r2 _ (s1.trans sR) ⟨r1, v, rfl, Same.new r20 _ _ upd_same, up_say _ _ _ (SayR.mono sR.tk _ _ _ rs)⟩ upd_same
      | false =>
        refine ifn rfl ⟨_, rfl, rfl, _, rfl, _, _, _, rfl, rfl, _, rfl, ?_⟩
        cases h2 : Txt.startswith3 t (Str.ofString "(") (p : Int) with
        | true =>
          have pu : wnF n t (r + 1) p = match rowF t (whF t (wnF n t r)) (p + 1) with | none => none | some x => some ((SyF.row x.1 : SyF (Sy (dw r + 1))), x.2) := (if_neg (by rw [h1]; exact Bool.false_ne_true)).trans (if_pos h2)
          refine ifp rfl ⟨_, rfl, _, rfl, _, rfl, _, _, rfl, rfl, _, rfl, _, _, rfl, rfl, n, t, p + 1, r, (by show [V.int n, V.str t, V.int ((p : Int) + 1), V.int (((r + 1 : Nat) : Int) - 1)] = [V.int n, V.str t, V.int ((p + 1 : Nat) : Int), V.int (r : Int)]; rw [show ((r + 1 : Nat) : Int) - 1 = (r : Int) by omega]; rfl), n3, n24, sg, lt, by omega, fun x hx v y H1 s1 rs hy => q1 ((SyF.row x.1 : SyF (Sy (dw r + 1))), x.2) (by rw [pu, hx]) v y H1 s1 rs hy, fun hno => q2 (by rw [pu, hno])⟩
        | false =>
          have pu : wnF n t (r + 1) p = match chF n (cutS t (some (p : Int)) (some ((eof t (p + 1) : Nat) : Int))) with | none => none | some c => some ((SyF.ch c.1 c.2 : SyF (Sy (dw r + 1))), eof t (p + 1)) := (if_neg (by rw [h1]; exact Bool.false_ne_true)).trans (if_neg (by rw [h2]; exact Bool.false_ne_true))
          refine ifn rfl ⟨_, rfl, _, rfl, _, _, rfl, rfl, t, p + 1, rfl, by omega, ?_⟩
          refine ⟨_, rfl, _, rfl, _, rfl, _, rfl, _, rfl, _, rfl, _, rfl, fit_big (by omega), n, cutS t (some (p : Int)) (some ((eof t (p + 1) : Nat) : Int)), rfl, n3, n24, cut_sg sg _ _, (by have := cut_len t (some (p : Int)) (some ((eof t (p + 1) : Nat) : Int)); omega), fun b m hm y H1 s1 hy => ?_, fun hno H1 s1 C hC => q2 ?_ H1 s1 C hC⟩
          · refine ⟨two_fit, fun r1 r10 => ⟨_, rfl, two_fit, fun r2 r20 => ?_⟩⟩
            have sR := (Same.new (o := .tup [V.str "change", .ref y]) r10).trans (Same.new (o := .tup [.ref r1, .int ((eof t (p + 1) : Nat) : Int)]) r20)
            exact q1 ((SyF.ch b m : SyF (Sy (dw r + 1))), eof t (p + 1)) (by rw [pu, chF_iff.mp hm]) (.ref r1) r2 _ (s1.trans sR) ⟨r1, y, rfl, Same.new r20 _ _ upd_same, sR _ _ hy⟩ upd_same
          · rw [pu]
            cases hc : chF n (cutS t (some (p : Int)) (some ((eof t (p + 1) : Nat) : Int))) with
            | none => rfl
            | some c => exact absurd (chF_iff.mpr hc) (hno c.1 c.2)
theorem ok_read_without_number {f : Addr} {fd : FuncData} (F : Fun K "read_without_number" "read_without_number" s_read_without_number f fd) (T : Txt K mg) (hm : mg "read_without_number" = some (.ref f)) {f_read_whole : Addr} {fd_read_whole : FuncData} (F_read_whole : Fun K "read_whole" "read_whole" s_read_whole f_read_whole fd_read_whole) (hm_read_whole : mg "read_whole" = some (.ref f_read_whole)) {f_read_row_behind_bracket : Addr} {fd_read_row_behind_bracket : FuncData} (F_read_row_behind_bracket : Fun K "read_row_behind_bracket" "read_row_behind_bracket" s_read_row_behind_bracket f_read_row_behind_bracket fd_read_row_behind_bracket) (hm_read_row_behind_bracket : mg "read_row_behind_bracket" = some (.ref f_read_row_behind_bracket)) (C_end_of_figures : Has P w K mg base 1 "end_of_figures" ["text", "place"] (sp_end_of_figures w K)) (C_read_change : HasX P w K mg base 2 "read_change" ["n", "text"] (sp_read_change w K)) (C_read_many : HasX P w K mg base 1 "read_many" ["figures"] (sp_read_many w K)) : ∀ d : Nat, FnOk P w K mg base (CXE P w) (d * 3 + 5) f fd ["n", "text", "place", "room"] (sp_read_without_number (d) w K) := by
  intro d
  induction d with
  | zero => exact ⟨fun vs H Q E h => ((fun {vs H Q E} (h : sp_read_without_number 0 w K vs H Q E) => (by obtain ⟨_, _, _, r, _, _, _, _, _, rd, _⟩ := h; exact absurd rd (Nat.not_lt_zero r) : False)) h).elim, fun A outer s H args us vs Q E _ _ _ _ h => ((fun {vs H Q E} (h : sp_read_without_number 0 w K vs H Q E) => (by obtain ⟨_, _, _, r, _, _, _, _, _, rd, _⟩ := h; exact absurd rd (Nat.not_lt_zero r) : False)) h).elim⟩
  | succ d ih =>
    have C_read_without_number : HasX P w K mg base (d * 3 + 5) "read_without_number" ["n", "text", "place", "room"] (sp_read_without_number (d) w K) := ⟨_, _, ih, hm, F.kp, F.binds fun _ _ _ _ _ _ us hl => match us, hl with | [_, _, _, _], _ => rfl⟩
    have C_read_whole : HasX P w K mg base (d * 3 + 6) "read_whole" ["n", "text", "place", "room"] (sp_read_whole (d) w K) := ⟨_, _, ok_read_whole d F_read_whole T C_end_of_figures C_read_many C_read_without_number, hm_read_whole, F_read_whole.kp, F_read_whole.binds fun _ _ _ _ _ _ us hl => match us, hl with | [_, _, _, _], _ => rfl⟩
    have C_read_row_behind_bracket : HasX P w K mg base (d * 3 + 7) "read_row_behind_bracket" ["n", "text", "place", "room"] (sp_read_row_behind_bracket (d) w K) := ⟨_, _, ok_read_row_behind_bracket d F_read_row_behind_bracket T C_read_whole, hm_read_row_behind_bracket, F_read_row_behind_bracket.kp, F_read_row_behind_bracket.binds fun _ _ _ _ _ _ us hl => match us, hl with | [_, _, _, _], _ => rfl⟩
    exact (step_read_without_number d F T C_end_of_figures C_read_change C_read_row_behind_bracket C_read_without_number).mono (by omega)
set_option maxHeartbeats 8000000 in
theorem ok_read_saying {f : Addr} {fd : FuncData} (F : Fun K "read_saying" "read_saying" s_read_saying f fd) (T : Txt K mg) (C_altogether : Has P w K mg base (20 * 1 + 2) "altogether" ["saying"] (sp_altogether (20) w K)) (C_depth : Has P w K mg base (20 * 1 + 2) "depth" ["saying"] (sp_depth (20) w K)) (C_read_whole : HasX P w K mg base (9 * 3 + 6) "read_whole" ["n", "text", "place", "room"] (sp_read_whole (9) w K)) : FnOk P w K mg base (CXE P w) 60 f fd ["n", "text"] (sp_read_saying w K) := by
  refine F.okX sc_read_saying (fun vs H Q E h => ?_) (fun cdv A outer s H vs Q E hr h => ?_)
  · obtain ⟨n, t, rfl, n3, n24, sg, lt, q1, q2⟩ := h
    rfl
  · obtain ⟨n, t, rfl, n3, n24, sg, lt, q1, q2⟩ := h
    obtain ⟨u_DEEPEST, hm_DEEPEST, rv_DEEPEST⟩ := T.g_DEEPEST
    obtain ⟨c_ToneError, c_NoText, c_NoHalf, c_NoLeading, c_NoRow, c_Unknown, hm_ToneError, hm_NoText, hm_NoHalf, hm_NoLeading, hm_NoRow, hm_Unknown, ns_NoText, ex_NoText, xm_NoText, xo_NoText, k1_NoText, k2_NoText, k3_NoText⟩ := T.g_EXCS
    obtain ⟨u_MOST, hm_MOST, rv_MOST⟩ := T.g_MOST
    refine ⟨_, (@pss_cons _ _ _ _ _ (@ps_set _ _ 2 _ _ _ _ sc_read_saying.nd rfl (Or.inl rfl) (pe_callP (E := E) C_read_whole (hr.mono (by decide)) rfl (@pa_cons _ _ _ _ _ (pv 0) (@pa_cons _ _ _ _ _ (pv 1) (@pa_cons _ _ _ _ _ pe_int (@pa_cons _ _ _ _ _ (pe_glob (v := V.int 8) (by rfl) hm_DEEPEST rv_DEEPEST) pa_nil (by rfl)) (by rfl)) (by rfl)) (by rfl)) (goes_fn rfl ⟨rfl, rfl⟩ (fun _ _ z => z))) (by rfl) (by first | exact Or.inl rfl | exact Or.inr rfl))
      (@pss_cons _ _ _ _ _ (@ps_if _ _ _ _ _ _ _ _ (@pt_cmpR _ _ _ _ _ _ _ _ op_ne (@pe_ix _ _ _ _ _ _ _ ix_tup (pv 2) pe_int (fun _ _ => rfl)) (pe_callB call_len_str (by rfl) T.b_len PySem.boot_len (@pa_cons _ _ _ _ _ (pv 1) pa_nil (by rfl))) (nomark _))
        (@pss_one _ _ _ (ps_raise rfl rfl ⟨rfl, rfl⟩ (fun _ _ z => z) (by rfl) hm_NoText ex_NoText PySem.F.excBase_ValueError (pe_joined (pj_cons pe_str (pj_cons (pe_frep (pv 1)) pj_nil)))))
        pss_nil)
      (@pss_cons _ _ _ _ _ (@ps_if _ _ _ _ _ _ _ _ (PW.pt (pw_or (@pt_cmpR _ _ _ _ _ _ _ _ op_gt (@pe_callH _ _ _ _ _ _ _ _ _ _ C_depth (hr.mono (by decide)) rfl (@pa_cons _ _ _ _ _ (@pe_ix _ _ _ _ _ _ _ ix_tup (pv 2) pe_int (fun _ _ => rfl)) pa_nil (by rfl)) (by decide) (by rfl) (by rfl)) (pe_glob (v := V.int 8) (by rfl) hm_DEEPEST rv_DEEPEST) (nomark _)) (pw_or1 (@pt_cmpR _ _ _ _ _ _ _ _ op_gt (@pe_callH _ _ _ _ _ _ _ _ _ _ C_altogether (hr.mono (by decide)) rfl (@pa_cons _ _ _ _ _ (@pe_ix _ _ _ _ _ _ _ ix_tup (pv 2) pe_int (fun _ _ => rfl)) pa_nil (by rfl)) (by decide) (by rfl) (by rfl)) (pe_glob (v := V.int 60) (by rfl) hm_MOST rv_MOST) (nomark _)))))
        (@pss_one _ _ _ (ps_raise rfl rfl ⟨rfl, rfl⟩ (fun _ _ z => z) (by rfl) hm_NoText ex_NoText PySem.F.excBase_ValueError (pe_joined (pj_cons pe_str (pj_cons (pe_fint (pe_glob (v := V.int 8) (by rfl) hm_DEEPEST rv_DEEPEST)) (pj_cons pe_str (pj_cons (pe_fint (pe_glob (v := V.int 60) (by rfl) hm_MOST rv_MOST)) (pj_cons pe_str (pj_cons (pe_frep (pv 1)) pj_nil)))))))))
        pss_nil)
      (@pss_one _ _ _ (@ps_ret _ _ _ _ (@pe_ix _ _ _ _ _ _ _ ix_tup (pv 2) pe_int (fun _ _ => rfl))))))), ?_⟩
    have rl := rep_len sg lt
    have z1 : (Str.empty ++ Str.ofString "something stands behind the saying: ").length ≤ 0 + 60 := slen2 (by decide +kernel) (by decide +kernel)
    have z2 := slen2 z1 rl
    have y1 : (Str.empty ++ Str.ofString "more than ").length ≤ 0 + 20 := slen2 (by decide +kernel) (by decide +kernel)
    have y2 : (Str.empty ++ Str.ofString "more than " ++ iS 8).length ≤ 0 + 20 + 2 := slen2 y1 (by decide +kernel)
    have y3 : (Str.empty ++ Str.ofString "more than " ++ iS 8 ++ Str.ofString " sayings within one another, or than ").length ≤ 0 + 20 + 2 + 40 := slen2 y2 (by decide +kernel)
    have y4 : (Str.empty ++ Str.ofString "more than " ++ iS 8 ++ Str.ofString " sayings within one another, or than " ++ iS 60).length ≤ 0 + 20 + 2 + 40 + 2 := slen2 y3 (by decide +kernel)
    have y5 : (Str.empty ++ Str.ofString "more than " ++ iS 8 ++ Str.ofString " sayings within one another, or than " ++ iS 60 ++ Str.ofString " altogether: ").length ≤ 0 + 20 + 2 + 40 + 2 + 20 := slen2 y4 (by decide +kernel)
    have y6 := slen2 y5 rl
    have pu : ∀ x, whF t (wnF n t 8) 0 = some x → rdF n t = if x.2 = t.length ∧ dep (dw 8 + 1) x.1 ≤ 8 ∧ nod (dw 8 + 1) x.1 ≤ 60 then some x.1 else none := fun x hx => by
      unfold rdF
      rw [hx]
    refine ⟨_, rfl, _, rfl, n, t, 0, 8, rfl, n3, n24, sg, lt, by decide, fun x hx v y H1 s1 rs hy => ?_, fun hno => q2 (by unfold rdF; rw [hno])⟩
    have pu := pu x hx
    have fn := found_nod hx
    refine ⟨_, rfl, y, _, _, _, rfl, rfl, SqT.of hy, rfl, _, rfl, t, rfl, fit_big (by omega), rfl, _, rfl, if2 (fun e => ?_) (fun e => ?_)⟩
    · have e : ((x.2 : Nat) : Int) ≠ ((t.length : Nat) : Int) := fun z => by rw [neF z] at e; cases e
      exact ⟨_, rfl, fit_big (Nat.le_trans z1 (by decide)), _, rfl, t, rfl, fit_big (Nat.le_trans rl (by decide)), _, rfl, fit_big (Nat.le_trans z2 (by decide)), fit_big (Nat.le_trans z2 (by decide)), q2 (by rw [pu, if_neg (fun z => e (by rw [z.1]))]) H1 s1 _ ns_NoText⟩
    · have e : x.2 = t.length := Classical.byContradiction fun z => by
        rw [neT (x := ((x.2 : Nat) : Int)) (y := ((t.length : Nat) : Int)) (by omega)] at e
        cases e
      have no : ¬ (dep (dw 8 + 1) x.1 ≤ 8 ∧ nod (dw 8 + 1) x.1 ≤ 60) → ∀ H2, Same H1 H2 → _ := fun h H2 s2 => q2 (by rw [pu, if_neg (fun z => h z.2)]) H2 (s1.trans s2) _ ns_NoText
      refine ⟨_, rfl, y, _, _, _, rfl, rfl, SqT.of hy, rfl, dw 8 + 1, v, x.1, rfl, by decide, rs, by omega, fun H2 s2 => ?_⟩
      refine ⟨_, _, rfl, rfl, _, rfl, if2 (fun e2 => ?_) (fun e2 => ?_)⟩
      · have e2 : (8 : Int) < ((dep (dw 8 + 1) x.1 : Nat) : Int) := of_decide_eq_true e2
        exact ⟨_, rfl, fit_big (Nat.le_trans y1 (by decide)), 8, rfl, by decide, _, rfl, fit_big (Nat.le_trans y2 (by decide)), _, rfl, fit_big (Nat.le_trans y3 (by decide)), 60, rfl, by decide, _, rfl, fit_big (Nat.le_trans y4 (by decide)), _, rfl, fit_big (Nat.le_trans y5 (by decide)), _, rfl, t, rfl, fit_big (Nat.le_trans rl (by decide)), _, rfl, fit_big (Nat.le_trans y6 (by decide)), fit_big (Nat.le_trans y6 (by decide)), no (by omega) H2 s2⟩
      · have e2 : ¬ (8 : Int) < ((dep (dw 8 + 1) x.1 : Nat) : Int) := of_decide_eq_false e2
        refine ⟨_, rfl, y, _, _, _, rfl, rfl, SqT.of (s2 _ _ hy), rfl, dw 8 + 1, v, x.1, rfl, by decide, SayR.mono s2.tk _ _ _ rs, by omega, fun H3 s3 => ?_⟩
        refine ⟨_, _, rfl, rfl, _, rfl, if2 (fun e3 => ?_) (fun e3 => ?_)⟩
        · have e3 : (60 : Int) < ((nod (dw 8 + 1) x.1 : Nat) : Int) := of_decide_eq_true e3
          exact ⟨_, rfl, fit_big (Nat.le_trans y1 (by decide)), 8, rfl, by decide, _, rfl, fit_big (Nat.le_trans y2 (by decide)), _, rfl, fit_big (Nat.le_trans y3 (by decide)), 60, rfl, by decide, _, rfl, fit_big (Nat.le_trans y4 (by decide)), _, rfl, fit_big (Nat.le_trans y5 (by decide)), _, rfl, t, rfl, fit_big (Nat.le_trans rl (by decide)), _, rfl, fit_big (Nat.le_trans y6 (by decide)), fit_big (Nat.le_trans y6 (by decide)), no (by omega) H3 (s2.trans s3)⟩
        · have e3 : ¬ (60 : Int) < ((nod (dw 8 + 1) x.1 : Nat) : Int) := of_decide_eq_false e3
          exact ⟨_, rfl, y, _, _, _, rfl, rfl, SqT.of ((s2.trans s3) _ _ hy), rfl, q1 x.1 (by rw [pu, if_pos ⟨e, by omega, by omega⟩]) v H3 (s1.trans (s2.trans s3)) (SayR.mono (s2.trans s3).tk _ _ _ rs)⟩
set_option maxHeartbeats 8000000 in
theorem ok_l_cell_at {f : Addr} {fd : FuncData} (F : Fun K "_law_cell_at" "_law_cell_at" s_l_cell_at f fd) (T : Txt K mg)  : FnOk P w K mg base CX0 1 f fd ["_law_script", "_law_k"] (sp_l_cell_at w K) := by
  refine F.ok sc_l_cell_at (fun vs H Q E h => ?_) (fun cdv A outer s H vs Q E hr h => ?_)
  · obtain ⟨a, ns, k, rfl, hS, hl, q⟩ := h
    rfl
  · obtain ⟨a, ns, k, rfl, hS, hl, q⟩ := h
    refine ⟨_, (@pss_cons _ _ _ _ _ (@ps_if _ _ _ _ _ _ _ _ (@pt_cmpR _ _ _ _ _ _ _ _ op_eq (pe_callB call_len_seq (by rfl) T.b_len PySem.boot_len (@pa_cons _ _ _ _ _ (pv 0) pa_nil (by rfl))) pe_int (nomark _))
        (@pss_one _ _ _ (@ps_ret _ _ _ _ pe_int))
        pss_nil)
      (@pss_one _ _ _ (@ps_ret _ _ _ _ (@pe_ix _ _ _ _ _ _ _ ix_list (pv 0) (@pe_op _ _ _ _ _ _ _ _ op_mod (pv 1) (pe_callB call_len_seq (by rfl) T.b_len PySem.boot_len (@pa_cons _ _ _ _ _ (pv 0) pa_nil (by rfl)))) (fun _ _ => rfl))))), ?_⟩
    have hlen : (ns.map V.int).length = ns.length := List.length_map _
    refine ⟨_, rfl, a, _, rfl, .inl hS, rfl, _, rfl, ?_⟩
    refine if2 (fun _ => q 0) (fun e => ?_)
    have e := of_eqF e
    have hp : (0 : Int) < ((ns.map V.int).length : Int) := by omega
    obtain ⟨c, _, hc⟩ := atI_int (ns := ns) (i := k % ((ns.map V.int).length : Int)) (mod_lo _ hp) (by rw [← hlen]; exact mod_hi _ hp)
    exact ⟨_, rfl, _, rfl, _, rfl, a, _, rfl, .inl hS, _, _, rfl, rfl, hp, a, _, _, _, rfl, rfl, hS, hc, q c⟩
set_option maxHeartbeats 8000000 in
theorem ok_l_mixed {f : Addr} {fd : FuncData} (F : Fun K "_law_mixed" "_law_mixed" s_l_mixed f fd) (T : Txt K mg) (C_l_cell_at : Has P w K mg base 1 "_law_cell_at" ["_law_script", "_law_k"] (sp_l_cell_at w K)) : FnOk P w K mg base CX0 2 f fd ["_law_script", "_law_k", "_law_salt"] (sp_l_mixed w K) := by
  refine F.ok sc_l_mixed (fun vs H Q E h => ?_) (fun cdv A outer s H vs Q E hr h => ?_)
  · obtain ⟨a, ns, k, z, rfl, hS, hl, ⟨k0, k1⟩, ⟨z0, z1⟩, q⟩ := h
    rfl
  · obtain ⟨a, ns, k, z, rfl, hS, hl, ⟨k0, k1⟩, ⟨z0, z1⟩, q⟩ := h
    refine ⟨_, (@pss_cons _ _ _ _ _ (@ps_set _ _ 3 _ _ _ _ sc_l_mixed.nd rfl (Or.inl rfl) (@pe_callH _ _ _ _ _ _ _ _ _ _ C_l_cell_at (hr.mono (by decide)) rfl (@pa_cons _ _ _ _ _ (pv 0) (@pa_cons _ _ _ _ _ (pv 1) pa_nil (by rfl)) (by rfl)) (by decide) (by rfl) (by rfl)) (by rfl) (by first | exact Or.inl rfl | exact Or.inr rfl))
      (@pss_cons _ _ _ _ _ (@ps_set _ _ 4 _ _ _ _ sc_l_mixed.nd rfl (Or.inl rfl) (@pe_op _ _ _ _ _ _ _ _ op_fdiv (pv 1) (pe_callB (call_max2 rfl) (by rfl) T.b_max PyProof.Rows.boot_max (@pa_cons _ _ _ _ _ pe_int (@pa_cons _ _ _ _ _ (pe_callB call_len_seq (by rfl) T.b_len PySem.boot_len (@pa_cons _ _ _ _ _ (pv 0) pa_nil (by rfl))) pa_nil (by rfl)) (by rfl)))) (by rfl) (by first | exact Or.inl rfl | exact Or.inr rfl))
      (@pss_cons _ _ _ _ _ (@ps_set _ _ 5 _ _ _ _ sc_l_mixed.nd rfl (Or.inl rfl) (@pe_op _ _ _ _ _ _ _ _ op_add (@pe_op _ _ _ _ _ _ _ _ op_add (@pe_op _ _ _ _ _ _ _ _ op_add (@pe_op _ _ _ _ _ _ _ _ op_and (pv 3) pe_int) (@pe_op _ _ _ _ _ _ _ _ op_mul (@pe_op _ _ _ _ _ _ _ _ op_mul pe_int (pv 1)) (pv 1))) (@pe_op _ _ _ _ _ _ _ _ op_mul (@pe_op _ _ _ _ _ _ _ _ op_mul pe_int (pv 2)) (pv 2))) pe_int) (by rfl) (by first | exact Or.inl rfl | exact Or.inr rfl))
      (@pss_cons _ _ _ _ _ (@ps_set _ _ 5 _ _ _ _ sc_l_mixed.nd rfl (Or.inl rfl) (@pe_op _ _ _ _ _ _ _ _ op_mod (@pe_op _ _ _ _ _ _ _ _ op_mul (pv 5) pe_int) pe_int) (by rfl) (by first | exact Or.inl rfl | exact Or.inr rfl))
      (@pss_cons _ _ _ _ _ (@ps_set _ _ 5 _ _ _ _ sc_l_mixed.nd rfl (Or.inl rfl) (@pe_op _ _ _ _ _ _ _ _ op_mod (@pe_op _ _ _ _ _ _ _ _ op_mul (pv 5) (pv 5)) pe_int) (by rfl) (by first | exact Or.inl rfl | exact Or.inr rfl))
      (@pss_one _ _ _ (@ps_ret _ _ _ _ (@pe_op _ _ _ _ _ _ _ _ op_and (@pe_op _ _ _ _ _ _ _ _ op_add (@pe_op _ _ _ _ _ _ _ _ op_shr (pv 3) (@pe_op _ _ _ _ _ _ _ _ op_mul pe_int (@pe_op _ _ _ _ _ _ _ _ op_add (pv 2) (@pe_op _ _ _ _ _ _ _ _ op_mul pe_int (pv 4))))) (pv 5)) pe_int)))))))), ?_⟩
    have hlen : (ns.map V.int).length = ns.length := List.length_map _
    -- cell
    refine ⟨_, rfl, _, rfl, a, ns, k, rfl, hS, hl, fun c => ?_⟩
    -- lap
    have hm : CDiv k (if (((ns.map V.int).length : Nat) : Int) > 1 then (((ns.map V.int).length : Nat) : Int) else 1) := by
      show 0 < (if (((ns.map V.int).length : Nat) : Int) > 1 then (((ns.map V.int).length : Nat) : Int) else 1) ∧ (if (((ns.map V.int).length : Nat) : Int) > 1 then (((ns.map V.int).length : Nat) : Int) else 1) < 1073741824
      rw [hlen]
      split <;> omega
    refine ⟨_, rfl, _, rfl, a, _, rfl, .inl hS, _, _, rfl, _, _, rfl, rfl, hm, ?_⟩
    have lap0 : 0 ≤ k / (if (((ns.map V.int).length : Nat) : Int) > 1 then (((ns.map V.int).length : Nat) : Int) else 1) := Int.ediv_nonneg k0 (Int.le_of_lt hm.1)
    -- near
    refine ⟨_, rfl, _, _, rfl, rfl, _, rfl, _, _, rfl, rfl, .inl ⟨by decide, by decide⟩, _, rfl, _, _, rfl, rfl, .inr ⟨by omega, by omega⟩, _, _, rfl, rfl, _, rfl, _, _, rfl, rfl, .inl ⟨by decide, by decide⟩, _, rfl, _, _, rfl, rfl, .inr ⟨by omega, by omega⟩, _, _, rfl, rfl, _, _, rfl, rfl, ?_⟩
    refine ⟨_, rfl, _, _, rfl, rfl, .inr ⟨by decide, by decide⟩, _, _, rfl, rfl, (by show (0 : Int) < 2147483647; decide), ?_⟩
    refine ⟨_, rfl, _, rfl, _, _, rfl, rfl, .inl ⟨by omega, by omega⟩, _, _, rfl, rfl, (by show (0 : Int) < 2147483629; decide), ?_⟩
    -- the answer
    refine ⟨_, rfl, _, rfl, _, rfl, _, _, rfl, rfl, .inl ⟨by decide, by decide⟩, _, _, rfl, rfl, _, _, rfl, rfl, .inl ⟨by decide, by decide⟩, _, _, rfl, rfl, (by omega), _, rfl, _, _, rfl, rfl, _, _, rfl, rfl, ?_⟩
    exact q _ (by rw [mask31 (_ + _)]; exact mod_lo _ (by decide)) (by rw [mask31 (_ + _)]; exact mod_hi _ (by decide))
set_option maxHeartbeats 8000000 in
theorem ok_l_wheel {f : Addr} {fd : FuncData} (F : Fun K "_law_wheel" "_law_wheel" s_l_wheel f fd) (T : Txt K mg) (C_l_mixed : Has P w K mg base 2 "_law_mixed" ["_law_script", "_law_k", "_law_salt"] (sp_l_mixed w K)) : FnOk P w K mg base CX0 3 f fd ["_law_script", "_law_most"] (sp_l_wheel w K) := by
  refine F.ok sc_l_wheel (fun vs H Q E h => ?_) (fun cdv A outer s H vs Q E hr h => ?_)
  · obtain ⟨a, ns, rfl, hS, hl, q⟩ := h
    rfl
  · obtain ⟨a, ns, rfl, hS, hl, q⟩ := h
    refine ⟨_, (@pss_one _ _ _ (@ps_ret _ _ _ _ (@pe_op _ _ _ _ _ _ _ _ op_add pe_int (@pe_op _ _ _ _ _ _ _ _ op_mod (@pe_callH _ _ _ _ _ _ _ _ _ _ C_l_mixed (hr.mono (by decide)) rfl (@pa_cons _ _ _ _ _ (pv 0) (@pa_cons _ _ _ _ _ pe_int (@pa_cons _ _ _ _ _ pe_int pa_nil (by rfl)) (by rfl)) (by rfl)) (by decide) (by rfl) (by rfl)) (@pe_op _ _ _ _ _ _ _ _ op_sub (pv 1) pe_int))))), ?_⟩
    refine ⟨_, rfl, a, ns, 0, 1, rfl, hS, hl, ⟨by decide, by decide⟩, ⟨by decide, by decide⟩, fun c c0 c1 => ?_⟩
    refine ⟨_, rfl, _, _, rfl, rfl, _, _, rfl, rfl, (by show (0 : Int) < 24 - 2; decide), _, _, rfl, rfl, ?_⟩
    have h0 := mod_lo c (n := 24 - 2) (by decide)
    have h1 := mod_hi c (n := 24 - 2) (by decide)
    exact q _ (by omega) (by omega)
set_option maxHeartbeats 8000000 in
theorem ok_l_bare (d : Nat) {f : Addr} {fd : FuncData} (F : Fun K "_law_bare" "_law_bare" s_l_bare f fd) (T : Txt K mg) (C_l_saying : Has P w K mg base (d * 2 + 5) "_law_saying" ["_law_script", "_law_bag", "_law_n", "_law_deep_here"] (sp_l_saying (d) w K)) : FnOk P w K mg base CX0 (d * 2 + 6) f fd ["_law_script", "_law_bag", "_law_n", "_law_deep_here"] (sp_l_bare (d) w K) := by
  refine F.ok sc_l_bare (fun vs H Q E h => ?_) (fun cdv A outer s H vs Q E hr h => ?_)
  · obtain ⟨g, a, ns, b, i, li, fl, n, rfl, hS, hl, hb, ⟨i0, i1⟩, hn, n24, hd, hgd, q⟩ := h
    rfl
  · obtain ⟨g, a, ns, b, i, li, fl, n, rfl, hS, hl, hb, ⟨i0, i1⟩, hn, n24, hd, hgd, q⟩ := h
    refine ⟨_, (@pss_cons _ _ _ _ _ (@ps_set _ _ 4 _ _ _ _ sc_l_bare.nd rfl (Or.inl rfl) (@pe_callH _ _ _ _ _ _ _ _ _ _ C_l_saying (hr.mono (by omega)) rfl (@pa_cons _ _ _ _ _ (pv 0) (@pa_cons _ _ _ _ _ (pv 1) (@pa_cons _ _ _ _ _ (pv 2) (@pa_cons _ _ _ _ _ (pv 3) pa_nil (by rfl)) (by rfl)) (by rfl)) (by rfl)) (by decide) (by rfl) (by rfl)) (by rfl) (by first | exact Or.inl rfl | exact Or.inr rfl))
      (@pss_cons _ _ _ _ _ (@ps_if _ _ _ _ _ _ _ _ (PW.pt (pw_and (@pt_cmpR _ _ _ _ _ _ _ _ op_eq (@pe_ix _ _ _ _ _ _ _ ix_tup (pv 4) pe_int (fun _ _ => rfl)) pe_str (nomark _)) (pw_and1 (@pt_cmpR _ _ _ _ _ _ _ _ op_eq (@pe_ix _ _ _ _ _ _ _ ix_list (pv 1) pe_int (fun _ _ => rfl)) pe_int (nomark _)))))
        (@pss_one _ _ _ (@ps_ret _ _ _ _ (@pe_tup _ _ _ _ _ (@pa_cons _ _ _ _ _ pe_str (@pa_cons _ _ _ _ _ (@pe_tup _ _ _ _ _ (@pa_cons _ _ _ _ _ pe_str (@pa_cons _ _ _ _ _ (@pe_op _ _ _ _ _ _ _ _ op_mod (@pe_ix _ _ _ _ _ _ _ ix_tup (pv 4) pe_int (fun _ _ => rfl)) (pv 2)) pa_nil (by rfl)) (by rfl))) pa_nil (by rfl)) (by rfl)))))
        pss_nil)
      (@pss_one _ _ _ (@ps_ret _ _ _ _ (pv 4))))), ?_⟩
    cases g with
    | zero => exact absurd hd (by decide)
    | succ g =>
    refine ⟨_, rfl, _, rfl, _, rfl, _, rfl, g + 1, a, ns, b, i, li, fl, n, rfl, hS, hl, hb, ⟨i0, i1⟩, hn, n24, hd, hgd, fun v H1 i2 s s1 hb1 l1 u1 b1 rs gs nn => ?_⟩
    have q := fun v H' i' s h1 h2 h3 h4 h5 h6 h7 h8 h9 => q v H' i' s h1 h2 h3 h4 h5 h6 h7 h8 h9
    match (show SyF (Sy g) from s), (show SayF H1 (SayR H1 g) v (show SyF (Sy g) from s) from rs), (show Good n fl (g + 1) (show SyF (Sy g) from s) from gs), (show ((nod (g + 1) (show SyF (Sy g) from s) : Nat) : Int) ≤ i2 - i from nn) with
    | .tm u k, ⟨p, w, e, h1, ru⟩, gs, nn =>
      subst e
      refine ⟨_, rfl, p, _, _, _, rfl, rfl, SqT.of h1, rfl, rfl, _, rfl, ifp rfl ?_⟩
      refine ⟨_, rfl, b, _, _, _, rfl, rfl, SqL.of hb1, rfl, rfl, _, rfl, if2 (fun e => ?_) (fun e => ?_)⟩
      · refine ⟨_, rfl, p, _, _, _, rfl, rfl, SqT.of h1, rfl, _, rfl, _, _, rfl, rfl, hn, two_fit, fun p2 p20 => ⟨two_fit, fun r r0 => ?_⟩⟩
        have sR := (Same.new (o := .tup (chV true (k % n))) p20).trans (Same.new (o := .tup [V.str "change", .ref p2]) r0)
        refine q (.ref r) _ i2 (SyF.ch true (k % n) : SyF (Sy g)) (s1.trans (SameX.of sR)) (sR _ _ hb1) l1 u1 b1 ⟨r, p2, rfl, upd_same, Same.new r0 _ _ upd_same⟩ ⟨mod_lo _ hn, mod_hi _ hn⟩ ?_ (fun _ z => z)
        have nn : ((1 + nod g u : Nat) : Int) ≤ i2 - i := nn
        show ((1 : Nat) : Int) ≤ i2 - i
        omega
      · have e := of_eqF e
        exact ⟨_, rfl, q (.ref p) H1 i2 (SyF.tm u k : SyF (Sy g)) s1 hb1 l1 u1 b1 ⟨p, w, rfl, h1, ru⟩ gs nn (fun z => absurd z e)⟩
    | .ch t m, ⟨p, p2, e, h1, h2⟩, gs, nn =>
      subst e
      refine ⟨_, rfl, p, _, _, _, rfl, rfl, SqT.of h1, rfl, rfl, _, rfl, ifn rfl (ifn rfl ?_)⟩
      exact ⟨_, rfl, q (.ref p) H1 i2 (SyF.ch t m : SyF (Sy g)) s1 hb1 l1 u1 b1 ⟨p, p2, rfl, h1, h2⟩ gs nn (fun _ z => z)⟩
    | .row l, ⟨p, p2, us, e, h1, h2, pr⟩, gs, nn =>
      subst e
      refine ⟨_, rfl, p, _, _, _, rfl, rfl, SqT.of h1, rfl, rfl, _, rfl, ifn rfl (ifn rfl ?_)⟩
      exact ⟨_, rfl, q (.ref p) H1 i2 (SyF.row l : SyF (Sy g)) s1 hb1 l1 u1 b1 ⟨p, p2, us, rfl, h1, h2, pr⟩ gs nn (fun _ z => z)⟩
    | .un u, ⟨p, w, e, h1, ru⟩, gs, nn =>
      subst e
      refine ⟨_, rfl, p, _, _, _, rfl, rfl, SqT.of h1, rfl, rfl, _, rfl, ifn rfl (ifn rfl ?_)⟩
      exact ⟨_, rfl, q (.ref p) H1 i2 (SyF.un u : SyF (Sy g)) s1 hb1 l1 u1 b1 ⟨p, w, rfl, h1, ru⟩ gs nn (fun _ z => z)⟩
set_option maxHeartbeats 8000000 in
theorem step_l_saying (d : Nat) {f : Addr} {fd : FuncData} (F : Fun K "_law_saying" "_law_saying" s_l_saying f fd) (T : Txt K mg) (C_l_bare : Has P w K mg base (d * 2 + 6) "_law_bare" ["_law_script", "_law_bag", "_law_n", "_law_deep_here"] (sp_l_bare (d) w K)) (C_l_mixed : Has P w K mg base 2 "_law_mixed" ["_law_script", "_law_k", "_law_salt"] (sp_l_mixed w K)) (C_l_saying : Has P w K mg base (d * 2 + 5) "_law_saying" ["_law_script", "_law_bag", "_law_n", "_law_deep_here"] (sp_l_saying (d) w K)) : FnOk P w K mg base CX0 (d * 2 + 7) f fd ["_law_script", "_law_bag", "_law_n", "_law_deep_here"] (sp_l_saying (d + 1) w K) := by
  refine F.ok sc_l_saying (fun vs H Q E h => ?_) (fun cdv A outer s H vs Q E hr h => ?_)
  · obtain ⟨g, a, ns, b, i, li, fl, n, rfl, hS, hl, hb, ⟨i0, i1⟩, hn, n24, hd, hgd, q⟩ := h
    rfl
  · obtain ⟨g, a, ns, b, i, li, fl, n, rfl, hS, hl, hb, ⟨i0, i1⟩, hn, n24, hd, hgd, q⟩ := h
    refine ⟨_, (@pss_cons _ _ _ _ _ (@ps_set _ _ 4 _ _ _ _ sc_l_saying.nd rfl (Or.inl rfl) (@pe_callH _ _ _ _ _ _ _ _ _ _ C_l_mixed (hr.mono (by omega)) rfl (@pa_cons _ _ _ _ _ (pv 0) (@pa_cons _ _ _ _ _ (@pe_ix _ _ _ _ _ _ _ ix_list (pv 1) pe_int (fun _ _ => rfl)) (@pa_cons _ _ _ _ _ pe_int pa_nil (by rfl)) (by rfl)) (by rfl)) (by decide) (by rfl) (by rfl)) (by rfl) (by first | exact Or.inl rfl | exact Or.inr rfl))
      (@pss_cons _ _ _ _ _ (ps_asg (@pe_op _ _ _ _ _ _ _ _ op_add (@pe_ix _ _ _ _ _ _ _ ix_list (pv 1) pe_int (fun _ _ => rfl)) pe_int) (pg_sub (pv 1) pe_int set_list))
      (@pss_cons _ _ _ _ _ (@ps_set _ _ 5 _ _ _ _ sc_l_saying.nd rfl (Or.inl rfl) (@pe_op _ _ _ _ _ _ _ _ op_mod (pv 4) pe_int) (by rfl) (by first | exact Or.inl rfl | exact Or.inr rfl))
      (@pss_cons _ _ _ _ _ (@ps_if _ _ _ _ _ _ _ _ (PW.pt (pw_or (@pt_cmpR _ _ _ _ _ _ _ _ op_eq (pv 3) pe_int (nomark _)) (pw_or (@pt_cmpR _ _ _ _ _ _ _ _ op_lt (pv 5) pe_int (nomark _)) (pw_or1 (@pt_cmpR _ _ _ _ _ _ _ _ op_gt (@pe_ix _ _ _ _ _ _ _ ix_list (pv 1) pe_int (fun _ _ => rfl)) (@pe_ix _ _ _ _ _ _ _ ix_list (pv 1) pe_int (fun _ _ => rfl)) (nomark _))))))
        (@pss_one _ _ _ (@ps_ret _ _ _ _ (@pe_tup _ _ _ _ _ (@pa_cons _ _ _ _ _ pe_str (@pa_cons _ _ _ _ _ (@pe_tup _ _ _ _ _ (@pa_cons _ _ _ _ _ (@pe_ix _ _ _ _ _ _ _ ix_list (@pe_lst _ _ _ _ (@pa_cons _ _ _ _ _ pe_str (@pa_cons _ _ _ _ _ pe_str pa_nil (by rfl)) (by rfl))) (@pe_op _ _ _ _ _ _ _ _ op_mod (@pe_op _ _ _ _ _ _ _ _ op_fdiv (pv 4) pe_int) pe_int) (fun _ _ => rfl)) (@pa_cons _ _ _ _ _ (@pe_op _ _ _ _ _ _ _ _ op_mod (@pe_op _ _ _ _ _ _ _ _ op_fdiv (pv 4) pe_int) (pv 2)) pa_nil (by rfl)) (by rfl))) pa_nil (by rfl)) (by rfl)))))
        pss_nil)
      (@pss_cons _ _ _ _ _ (@ps_if _ _ _ _ _ _ _ _ (@pt_cmpR _ _ _ _ _ _ _ _ op_lt (pv 5) pe_int (nomark _))
        (@pss_cons _ _ _ _ _ (@ps_set _ _ 6 _ _ _ _ sc_l_saying.nd rfl (Or.inl rfl) (@pe_op _ _ _ _ _ _ _ _ op_mod (@pe_op _ _ _ _ _ _ _ _ op_fdiv (pv 4) pe_int) pe_int) (by rfl) (by first | exact Or.inl rfl | exact Or.inr rfl))
        (@pss_cons _ _ _ _ _ (@ps_if _ _ _ _ _ _ _ _ (@pt_cmpR _ _ _ _ _ _ _ _ op_eq (@pe_op _ _ _ _ _ _ _ _ op_mod (@pe_op _ _ _ _ _ _ _ _ op_fdiv (pv 4) pe_int) pe_int) pe_int (nomark _))
          (@pss_cons _ _ _ _ _ (@ps_set _ _ 6 _ _ _ _ sc_l_saying.nd rfl (Or.inl rfl) (@pe_op _ _ _ _ _ _ _ _ op_add (@pe_op _ _ _ _ _ _ _ _ op_mul (@pe_op _ _ _ _ _ _ _ _ op_mul (@pe_callH _ _ _ _ _ _ _ _ _ _ C_l_mixed (hr.mono (by omega)) rfl (@pa_cons _ _ _ _ _ (pv 0) (@pa_cons _ _ _ _ _ (@pe_ix _ _ _ _ _ _ _ ix_list (pv 1) pe_int (fun _ _ => rfl)) (@pa_cons _ _ _ _ _ pe_int pa_nil (by rfl)) (by rfl)) (by rfl)) (by decide) (by rfl) (by rfl)) (@pe_callH _ _ _ _ _ _ _ _ _ _ C_l_mixed (hr.mono (by omega)) rfl (@pa_cons _ _ _ _ _ (pv 0) (@pa_cons _ _ _ _ _ (@pe_ix _ _ _ _ _ _ _ ix_list (pv 1) pe_int (fun _ _ => rfl)) (@pa_cons _ _ _ _ _ pe_int pa_nil (by rfl)) (by rfl)) (by rfl)) (by decide) (by rfl) (by rfl))) (@pe_op _ _ _ _ _ _ _ _ op_pow pe_int pe_int)) (@pe_op _ _ _ _ _ _ _ _ op_fdiv (pv 4) pe_int)) (by rfl) (by first | exact Or.inl rfl | exact Or.inr rfl))
          (@pss_one _ _ _ (@ps_set _ _ 6 _ _ _ _ sc_l_saying.nd rfl (Or.inl rfl) (@pe_op _ _ _ _ _ _ _ _ op_mod (pv 6) (@pe_op _ _ _ _ _ _ _ _ op_add (@pe_op _ _ _ _ _ _ _ _ op_pow pe_int pe_int) pe_int)) (by rfl) (by first | exact Or.inl rfl | exact Or.inr rfl))))
          pss_nil)
        (@pss_one _ _ _ (@ps_ret _ _ _ _ (@pe_tup _ _ _ _ _ (@pa_cons _ _ _ _ _ pe_str (@pa_cons _ _ _ _ _ (@pe_callH _ _ _ _ _ _ _ _ _ _ C_l_bare (hr.mono (by omega)) rfl (@pa_cons _ _ _ _ _ (pv 0) (@pa_cons _ _ _ _ _ (pv 1) (@pa_cons _ _ _ _ _ (pv 2) (@pa_cons _ _ _ _ _ (@pe_op _ _ _ _ _ _ _ _ op_sub (pv 3) pe_int) pa_nil (by rfl)) (by rfl)) (by rfl)) (by rfl)) (by decide) (by rfl) (by rfl)) (@pa_cons _ _ _ _ _ (pv 6) pa_nil (by rfl)) (by rfl)) (by rfl)))))))
        pss_nil)
      (@pss_cons _ _ _ _ _ (@ps_if _ _ _ _ _ _ _ _ (@pt_cmpR _ _ _ _ _ _ _ _ op_lt (pv 5) pe_int (nomark _))
        (@pss_one _ _ _ (@ps_ret _ _ _ _ (@pe_tup _ _ _ _ _ (@pa_cons _ _ _ _ _ pe_str (@pa_cons _ _ _ _ _ (@pe_callH _ _ _ _ _ _ _ _ _ _ C_l_bare (hr.mono (by omega)) rfl (@pa_cons _ _ _ _ _ (pv 0) (@pa_cons _ _ _ _ _ (pv 1) (@pa_cons _ _ _ _ _ (pv 2) (@pa_cons _ _ _ _ _ (@pe_op _ _ _ _ _ _ _ _ op_sub (pv 3) pe_int) pa_nil (by rfl)) (by rfl)) (by rfl)) (by rfl)) (by decide) (by rfl) (by rfl)) pa_nil (by rfl)) (by rfl)))))
        pss_nil)
      (@pss_one _ _ _ (@ps_ret _ _ _ _ (@pe_tup _ _ _ _ _ (@pa_cons _ _ _ _ _ pe_str (@pa_cons _ _ _ _ _ (pe_callTy call_tuple_of (by rfl) T.b_tuple PyProof.Rows.boot_tuple (@pa_cons _ _ _ _ _ (pe_comp (ys := ["_law_script", "_law_bag", "_law_n", "_law_deep_here"]) (js := [0, 1, 2, 3]) ⟨by rfl, of_decide_eq_true (by kernel_rfl), of_decide_eq_true (by kernel_rfl), by rfl, of_decide_eq_true (by kernel_rfl), of_decide_eq_true (by kernel_rfl), by rfl, of_decide_eq_true (by kernel_rfl)⟩ rfl (pi_range1 rfl T.b_range (@pa_cons _ _ _ _ _ (@pe_op _ _ _ _ _ _ _ _ op_mod (@pe_op _ _ _ _ _ _ _ _ op_fdiv (pv 4) pe_int) pe_int) pa_nil (by rfl))) (fun _ _ _ _ _ => pts_nil) (fun _ _ _ _ _ => (@pe_callH _ _ _ _ _ _ _ _ _ _ C_l_saying (hr.mono (by omega)) rfl (@pa_cons _ _ _ _ _ (pv 1) (@pa_cons _ _ _ _ _ (pv 2) (@pa_cons _ _ _ _ _ (pv 3) (@pa_cons _ _ _ _ _ (@pe_op _ _ _ _ _ _ _ _ op_sub (pv 4) pe_int) pa_nil (by rfl)) (by rfl)) (by rfl)) (by rfl)) (by decide) (by rfl) (by rfl)))) pa_nil (by rfl))) pa_nil (by rfl)) (by rfl))))))))))), ?_⟩
    cases g with
    | zero => exact absurd hd (by decide)
    | succ g =>
    have hS0 := hS H (SameX.refl _ _)
    have ci := cntS_succ g
    refine ⟨_, rfl, _, rfl, b, _, _, _, rfl, rfl, SqL.of hb, rfl, a, ns, i, 40, rfl, hS0, hl, ⟨i0, by omega⟩, ⟨by decide, by decide⟩, fun c c0 c1 => ?_⟩
    refine ⟨_, rfl, b, _, _, _, rfl, rfl, SqL.of hb, rfl, _, _, rfl, rfl, _, rfl, b, _, _, 0, rfl, rfl, hb, rfl, ?_⟩
    simp only [List.set_cons_zero]
    have s1 : SameX b H (upd H b (.lst [V.int (i + 1), V.int li, V.int fl])) := SameX.upd b H _
    have hb1 : (upd H b (.lst [V.int (i + 1), V.int li, V.int fl])) b = some (.lst [V.int (i + 1), V.int li, V.int fl]) := upd_same
    generalize upd H b (.lst [V.int (i + 1), V.int li, V.int fl]) = H1 at s1 hb1 ⊢
    have hS1 : ∀ H', SameX b H1 H' → SqL K H' a (ns.map V.int) := fun H' z => hS H' (s1.trans z)
    refine ⟨_, rfl, _, _, rfl, rfl, (by show (0 : Int) < 8; decide), ?_⟩
    refine ⟨_, rfl, rfl, _, rfl, if2 (fun e => ifp rfl ?_) (fun e => ?_)⟩
    · refine ⟨two_fit, fun l l0 => ?_⟩
      obtain ⟨t, ht⟩ := two_at (c / 8)
      refine ⟨_, rfl, _, _, rfl, rfl, ⟨by decide, by decide⟩, _, _, rfl, rfl, (by show (0 : Int) < 2; decide), l, _, _, _, rfl, rfl, SqL.of upd_same, ht, _, rfl, _, _, rfl, rfl, ⟨by decide, by decide⟩, _, rfl, _, _, rfl, rfl, hn, two_fit, fun p p0 => ⟨two_fit, fun r r0 => ?_⟩⟩
      have sR := (Same.new (o := .lst [V.str "turn", V.str "mirror"]) l0).trans ((Same.new (o := .tup (chV t (c / 16 % n))) p0).trans (Same.new (o := .tup [V.str "change", .ref p]) r0))
      exact q (.ref r) _ (i + 1) (SyF.ch t (c / 16 % n) : SyF (Sy g)) (s1.trans (SameX.of sR)) (sR _ _ hb1) (by omega) (by omega) (by omega) ⟨r, p, rfl, upd_same, Same.new r0 _ _ upd_same⟩ ⟨mod_lo _ hn, mod_hi _ hn⟩ (by show ((1 : Nat) : Int) ≤ i + 1 - i; omega)
    have e := of_eqF e
    have hd1 : 0 < g := by omega
    refine ⟨_, rfl, _, _, rfl, rfl, _, rfl, if2 (fun e2 => ifp rfl ?_) (fun e2 => ?_)⟩
    · refine ⟨two_fit, fun l l0 => ?_⟩
      obtain ⟨t, ht⟩ := two_at (c / 8)
      refine ⟨_, rfl, _, _, rfl, rfl, ⟨by decide, by decide⟩, _, _, rfl, rfl, (by show (0 : Int) < 2; decide), l, _, _, _, rfl, rfl, SqL.of upd_same, ht, _, rfl, _, _, rfl, rfl, ⟨by decide, by decide⟩, _, rfl, _, _, rfl, rfl, hn, two_fit, fun p p0 => ⟨two_fit, fun r r0 => ?_⟩⟩
      have sR := (Same.new (o := .lst [V.str "turn", V.str "mirror"]) l0).trans ((Same.new (o := .tup (chV t (c / 16 % n))) p0).trans (Same.new (o := .tup [V.str "change", .ref p]) r0))
      exact q (.ref r) _ (i + 1) (SyF.ch t (c / 16 % n) : SyF (Sy g)) (s1.trans (SameX.of sR)) (sR _ _ hb1) (by omega) (by omega) (by omega) ⟨r, p, rfl, upd_same, Same.new r0 _ _ upd_same⟩ ⟨mod_lo _ hn, mod_hi _ hn⟩ (by show ((1 : Nat) : Int) ≤ i + 1 - i; omega)
    refine ⟨_, rfl, b, _, _, _, rfl, rfl, SqL.of hb1, rfl, _, rfl, b, _, _, _, rfl, rfl, SqL.of hb1, rfl, _, _, rfl, rfl, _, rfl, if2 (fun e3 => ?_) (fun e3 => ?_)⟩
    · refine ⟨two_fit, fun l l0 => ?_⟩
      obtain ⟨t, ht⟩ := two_at (c / 8)
      refine ⟨_, rfl, _, _, rfl, rfl, ⟨by decide, by decide⟩, _, _, rfl, rfl, (by show (0 : Int) < 2; decide), l, _, _, _, rfl, rfl, SqL.of upd_same, ht, _, rfl, _, _, rfl, rfl, ⟨by decide, by decide⟩, _, rfl, _, _, rfl, rfl, hn, two_fit, fun p p0 => ⟨two_fit, fun r r0 => ?_⟩⟩
      have sR := (Same.new (o := .lst [V.str "turn", V.str "mirror"]) l0).trans ((Same.new (o := .tup (chV t (c / 16 % n))) p0).trans (Same.new (o := .tup [V.str "change", .ref p]) r0))
      exact q (.ref r) _ (i + 1) (SyF.ch t (c / 16 % n) : SyF (Sy g)) (s1.trans (SameX.of sR)) (sR _ _ hb1) (by omega) (by omega) (by omega) ⟨r, p, rfl, upd_same, Same.new r0 _ _ upd_same⟩ ⟨mod_lo _ hn, mod_hi _ hn⟩ (by show ((1 : Nat) : Int) ≤ i + 1 - i; omega)
    have e3 : ¬ (li < i + 1) := of_decide_eq_false e3
    refine ⟨_, rfl, _, _, rfl, rfl, _, rfl, if2 (fun e4 => ?_) (fun e4 => ?_)⟩
    · have m0 := mod_lo (c / 8) (n := 7) (by decide)
      have m1 := mod_hi (c / 8) (n := 7) (by decide)
      refine ⟨_, rfl, _, _, rfl, rfl, ⟨by decide, by decide⟩, _, _, rfl, rfl, (by show (0 : Int) < 7; decide), ?_⟩
      refine ⟨_, rfl, _, _, rfl, rfl, ⟨by decide, by decide⟩, _, _, rfl, rfl, (by show (0 : Int) < 8; decide), rfl, _, rfl, if2 (fun e5 => ?_) (fun e5 => ?_)⟩
      · refine ⟨_, rfl, _, rfl, b, _, _, _, rfl, rfl, SqL.of hb1, rfl, a, ns, i + 1, 41, rfl, hS1 H1 (SameX.refl _ _), hl, ⟨by omega, by omega⟩, ⟨by decide, by decide⟩, fun x1 a0 a1 => ?_⟩
        refine ⟨_, rfl, _, rfl, b, _, _, _, rfl, rfl, SqL.of hb1, rfl, a, ns, i + 1, 42, rfl, hS1 H1 (SameX.refl _ _), hl, ⟨by omega, by omega⟩, ⟨by decide, by decide⟩, fun x2 b0 b1 => ?_⟩
        refine ⟨_, _, rfl, rfl, .inl ⟨by omega, by omega⟩, _, _, rfl, rfl, pow_ok (by decide) (by decide), _, _, rfl, rfl, .inr ⟨by decide, by decide⟩, _, rfl, _, _, rfl, rfl, ⟨by decide, by decide⟩, _, _, rfl, rfl, ?_⟩
        refine ⟨_, rfl, _, _, rfl, rfl, pow_ok (by decide) (by decide), _, _, rfl, rfl, _, _, rfl, rfl, (by show (0 : Int) < 10 ^ 30 + 1; decide), ?_⟩
        dsimp only
        have k0 := mod_lo (x1 * x2 * 10 ^ (11 : Int).toNat + c / 448) (n := 10 ^ (30 : Int).toNat + 1) (by decide)
        have k1 := mod_hi (x1 * x2 * 10 ^ (11 : Int).toNat + c / 448) (n := 10 ^ (30 : Int).toNat + 1) (by decide)
        generalize (x1 * x2 * 10 ^ (11 : Int).toNat + c / 448) % (10 ^ (30 : Int).toNat + 1) = many at k0 k1
        have k1 : many ≤ 10 ^ 30 := by
          have e30 : (10 : Int) ^ (30 : Int).toNat = 10 ^ 30 := rfl
          rw [e30] at k1
          omega
        refine ⟨_, rfl, _, rfl, _, rfl, _, rfl, _, _, rfl, rfl, g, a, ns, b, i + 1, li, fl, n, (by show [V.ref a, V.ref b, V.int n, V.int (((g + 1 : Nat) : Int) - 1)] = _; rw [show ((g + 1 : Nat) : Int) - 1 = (g : Int) by omega]), hS1, hl, hb1, ⟨by omega, by omega⟩, hn, n24, hd1, (by omega), fun w H2 i2 u s2 hb2 l2 u2 b2 ru gu nu tu => ⟨_, rfl, three_fit, fun r r0 => ?_⟩⟩
        exact q (.ref r) _ i2 (SyF.tm u many : SyF (Sy g)) (s1.trans (s2.trans (SameX.of (Same.new r0)))) ((Same.new r0) _ _ hb2) (by omega) (by omega) (by omega) ⟨r, w, rfl, upd_same, SayR.mono (Same.new r0).tk _ _ _ ru⟩ ⟨k0, k1, gu, tu⟩ (by show ((1 + nod g u : Nat) : Int) ≤ i2 - i; omega)
      · refine ⟨_, rfl, _, rfl, _, rfl, _, rfl, _, _, rfl, rfl, g, a, ns, b, i + 1, li, fl, n, (by show [V.ref a, V.ref b, V.int n, V.int (((g + 1 : Nat) : Int) - 1)] = _; rw [show ((g + 1 : Nat) : Int) - 1 = (g : Int) by omega]), hS1, hl, hb1, ⟨by omega, by omega⟩, hn, n24, hd1, (by omega), fun w H2 i2 u s2 hb2 l2 u2 b2 ru gu nu tu => ⟨_, rfl, three_fit, fun r r0 => ?_⟩⟩
        exact q (.ref r) _ i2 (SyF.tm u (c / 8 % 7) : SyF (Sy g)) (s1.trans (s2.trans (SameX.of (Same.new r0)))) ((Same.new r0) _ _ hb2) (by omega) (by omega) (by omega) ⟨r, w, rfl, upd_same, SayR.mono (Same.new r0).tk _ _ _ ru⟩ ⟨m0, (by omega), gu, tu⟩ (by show ((1 + nod g u : Nat) : Int) ≤ i2 - i; omega)
    refine ⟨_, rfl, _, _, rfl, rfl, _, rfl, if2 (fun e5 => ?_) (fun e5 => ?_)⟩
    · refine ⟨_, rfl, _, rfl, _, rfl, _, rfl, _, _, rfl, rfl, g, a, ns, b, i + 1, li, fl, n, (by show [V.ref a, V.ref b, V.int n, V.int (((g + 1 : Nat) : Int) - 1)] = _; rw [show ((g + 1 : Nat) : Int) - 1 = (g : Int) by omega]), hS1, hl, hb1, ⟨by omega, by omega⟩, hn, n24, hd1, (by omega), fun w H2 i2 u s2 hb2 l2 u2 b2 ru gu nu tu => ⟨two_fit, fun r r0 => ?_⟩⟩
      exact q (.ref r) _ i2 (SyF.un u : SyF (Sy g)) (s1.trans (s2.trans (SameX.of (Same.new r0)))) ((Same.new r0) _ _ hb2) (by omega) (by omega) (by omega) ⟨r, w, rfl, upd_same, SayR.mono (Same.new r0).tk _ _ _ ru⟩ ⟨gu, tu⟩ (by show ((1 + nod g u : Nat) : Int) ≤ i2 - i; omega)
    have m0 := mod_lo (c / 8) (n := 4) (by decide)
    have m1 := mod_hi (c / 8) (n := 4) (by decide)
    refine ⟨_, rfl, _, _, rfl, rfl, ⟨by decide, by decide⟩, _, _, rfl, rfl, (by show (0 : Int) < 4; decide), _, rfl, by omega, by omega, comp_walk (fun D j ys H' => ∃ (i' : Int) (ss : List (Sy g)), D ≠ b ∧ SameX b H1 H' ∧ H' D = some (.lst ys) ∧ H' b = some (.lst [.int i', .int li, .int fl]) ∧ (i + 1 ≤ i' ∧ i' ≤ i + 1 + ((j * cntS g : Nat) : Int) ∧ i' ≤ li + 2 * (g : Int) - 2 + (j : Int)) ∧ Paired (SayR H' g) ys ss ∧ ys.length ≤ j ∧ (∀ u ∈ ss, Good n fl g u) ∧ (((ss.map (nod g)).sum : Nat) : Int) ≤ i' - (i + 1)) ?_ ?_ ?_ ?_ ?_⟩
    · intro D hD
      have ne : D ≠ b := fun z => by rw [z, hb1] at hD; cases hD
      exact ⟨i + 1, [], ne, SameX.of (Same.new hD), upd_same, Same.new hD _ _ hb1, ⟨by omega, by omega, by omega⟩, .nil, Nat.le_refl _, (fun u hu => by cases hu), by show ((0 : Nat) : Int) ≤ i + 1 - (i + 1); omega⟩
    · rintro D j ys H' ⟨i', ss, ne, sx, hDl, hb', _, pr, hlen, _⟩
      exact ⟨hDl, hlen⟩
    · rintro D j ys H' hj hD ⟨i', ss, ne, sx, hDl, hb', ⟨il, iu, ib⟩, pr, hlen, hg, hno⟩ Q2 h
      have j4 : j < 4 := by omega
      have jm := step_le (m := cntS g) (show j < 4 from j4)
      have j3 : j + 1 ≤ 3 := by omega
      have js : (j + 1) * cntS g = j * cntS g + cntS g := Nat.succ_mul j _
      have jt : (j + 1) * cntS g ≤ 3 * cntS g := Nat.mul_le_mul_right _ j3
      refine ⟨_, rfl, _, rfl, _, rfl, _, rfl, _, _, rfl, rfl, g, a, ns, b, i', li, fl, n, (by show [V.ref a, V.ref b, V.int n, V.int (((g + 1 : Nat) : Int) - 1)] = _; rw [show ((g + 1 : Nat) : Int) - 1 = (g : Int) by omega]), (fun H'' z => hS1 H'' (sx.trans z)), hl, hb', ⟨by omega, by omega⟩, hn, n24, hd1, (by omega), fun v H4 i4 s4 sx4 hb4 l4 u4 b4 rs gs nn => ?_⟩
      have hD4 := sx4 _ _ ne hDl
      have tk4 : TupKeep H4 (upd H4 D (.lst (ys ++ [v]))) := TupKeep.upd fun xs z => by rw [hD4] at z; cases z
      have tk := (SameX.tk hb' sx4).trans tk4
      refine h v H4 hD4 ⟨i4, ss ++ [s4], ne, fun x o hx hH => ?_, upd_same, ?_, ⟨by omega, by omega, by omega⟩, prd_append (prd_imp (fun x y r => SayR.mono tk _ _ _ r) pr) (.cons (SayR.mono tk4 _ _ _ rs) .nil), ?_, ?_, ?_⟩
      · have nD : x ≠ D := fun z => by rw [z, hD] at hH; cases hH
        rw [upd_ne nD]
        exact sx4 _ _ hx (sx _ _ hx hH)
      · rw [upd_ne (fun z => ne z.symm)]
        exact hb4
      · rw [List.length_append]
        show ys.length + 1 ≤ j + 1
        omega
      · intro u hu
        rcases List.mem_append.mp hu with hu | hu
        · exact hg u hu
        · rw [List.mem_singleton.mp hu]
          exact gs
      · rw [List.map_append, List.sum_append]
        show (((ss.map (nod g)).sum + (nod g s4 + 0) : Nat) : Int) ≤ i4 - (i + 1)
        omega
    · exact fit1000 (by omega)
    · rintro D ys H' hD ⟨i', ss, ne, sx, hDl, hb', ⟨il, iu, ib⟩, pr, hlen, hg, hno⟩
      refine ⟨D, ys, rfl, .inl ⟨SqL.of hDl, fun r1 r10 => ⟨two_fit, fun r2 r20 => ?_⟩⟩⟩
      have jt := step_le (m := cntS g) (show (c / 8 % 4).toNat < 4 by omega)
      have sR := (Same.new (o := .tup ys) r10).trans (Same.new (o := .tup [V.str "row", .ref r1]) r20)
      exact q (.ref r2) _ i' (SyF.row ss : SyF (Sy g)) (s1.trans (sx.trans (SameX.of sR))) (sR _ _ hb') (by omega) (by omega) (by omega) ⟨r2, r1, ys, rfl, upd_same, Same.new r20 _ _ upd_same, prd_imp (fun x y r => SayR.mono sR.tk _ _ _ r) pr⟩ ⟨by rw [← prd_len pr]; omega, hg⟩ (by show ((1 + (ss.map (nod g)).sum : Nat) : Int) ≤ i' - i; omega)
theorem ok_l_saying {f : Addr} {fd : FuncData} (F : Fun K "_law_saying" "_law_saying" s_l_saying f fd) (T : Txt K mg) (hm : mg "_law_saying" = some (.ref f)) {f_l_bare : Addr} {fd_l_bare : FuncData} (F_l_bare : Fun K "_law_bare" "_law_bare" s_l_bare f_l_bare fd_l_bare) (hm_l_bare : mg "_law_bare" = some (.ref f_l_bare)) (C_l_mixed : Has P w K mg base 2 "_law_mixed" ["_law_script", "_law_k", "_law_salt"] (sp_l_mixed w K)) : ∀ d : Nat, FnOk P w K mg base CX0 (d * 2 + 5) f fd ["_law_script", "_law_bag", "_law_n", "_law_deep_here"] (sp_l_saying (d) w K) := by
  intro d
  induction d with
  | zero => exact ⟨fun vs H Q E h => ((fun {vs H Q E} (h : sp_l_saying 0 w K vs H Q E) => (by obtain ⟨_, _, _, _, _, _, _, _, _, _, _, _, _, _, _, hd, hg, _⟩ := h; omega : False)) h).elim, fun A outer s H args us vs Q E _ _ _ _ h => ((fun {vs H Q E} (h : sp_l_saying 0 w K vs H Q E) => (by obtain ⟨_, _, _, _, _, _, _, _, _, _, _, _, _, _, _, hd, hg, _⟩ := h; omega : False)) h).elim⟩
  | succ d ih =>
    have C_l_saying : Has P w K mg base (d * 2 + 5) "_law_saying" ["_law_script", "_law_bag", "_law_n", "_law_deep_here"] (sp_l_saying (d) w K) := ⟨_, _, ih, hm, F.kp, F.binds fun _ _ _ _ _ _ us hl => match us, hl with | [_, _, _, _], _ => rfl⟩
    have C_l_bare : Has P w K mg base (d * 2 + 6) "_law_bare" ["_law_script", "_law_bag", "_law_n", "_law_deep_here"] (sp_l_bare (d) w K) := ⟨_, _, ok_l_bare d F_l_bare T C_l_saying, hm_l_bare, F_l_bare.kp, F_l_bare.binds fun _ _ _ _ _ _ us hl => match us, hl with | [_, _, _, _], _ => rfl⟩
    exact (step_l_saying d F T C_l_bare C_l_mixed C_l_saying).mono (by omega)
set_option maxHeartbeats 8000000 in
theorem step_l_saying_row (d : Nat) {f : Addr} {fd : FuncData} (F : Fun K "_law_saying_row" "_law_saying_row" s_l_saying_row f fd) (T : Txt K mg) (C_l_saying_row : Has P w K mg base (d * 1 + 2) "_law_saying_row" ["_law_saying_here"] (sp_l_saying_row (d) w K)) : FnOk P w K mg base CX0 (d * 1 + 3) f fd ["_law_saying_here"] (sp_l_saying_row (d + 1) w K) := by
  refine F.ok sc_l_saying_row (fun vs H Q E h => ?_) (fun cdv A outer s H vs Q E hr h => ?_)
  · obtain ⟨g, v, s, n, fl, rfl, hg, n24, rs, gs, ns, q⟩ := h
    rfl
  · obtain ⟨g, v, s, n, fl, rfl, hg, n24, rs, gs, ns, q⟩ := h
    refine ⟨_, (@pss_cons _ _ _ _ _ (@ps_if _ _ _ _ _ _ _ _ (@pt_cmpR _ _ _ _ _ _ _ _ op_eq (@pe_ix _ _ _ _ _ _ _ ix_tup (pv 0) pe_int (fun _ _ => rfl)) pe_str (nomark _))
        (@pss_one _ _ _ (@ps_ret _ _ _ _ (@pe_op _ _ _ _ _ _ _ _ op_add_str (@pe_op _ _ _ _ _ _ _ _ op_add_str pe_str (pe_bm PySem.F.plainAttrs_str PySem.F.slot_str_join PySem.F.type_str_join mt_join pe_str (@pa_cons _ _ _ _ _ (pe_comp (ys := []) (js := []) ⟨by rfl, of_decide_eq_true (by kernel_rfl), of_decide_eq_true (by kernel_rfl), by rfl, of_decide_eq_true (by kernel_rfl), of_decide_eq_true (by kernel_rfl), by rfl, of_decide_eq_true (by kernel_rfl)⟩ rfl (pi_tup (@pe_ix _ _ _ _ _ _ _ ix_tup (pv 0) pe_int (fun _ _ => rfl))) (fun _ _ _ _ _ => pts_nil) (fun _ _ _ _ _ => (@pe_callH _ _ _ _ _ _ _ _ _ _ C_l_saying_row (hr.mono (by omega)) rfl (@pa_cons _ _ _ _ _ (pv 0) pa_nil (by rfl)) (by decide) (by rfl) (by rfl)))) pa_nil (by rfl)))) pe_str)))
        pss_nil)
      (@pss_cons _ _ _ _ _ (@ps_if _ _ _ _ _ _ _ _ (@pt_cmpR _ _ _ _ _ _ _ _ op_eq (@pe_ix _ _ _ _ _ _ _ ix_tup (pv 0) pe_int (fun _ _ => rfl)) pe_str (nomark _))
        (@pss_one _ _ _ (@ps_ret _ _ _ _ (@pe_op _ _ _ _ _ _ _ _ op_add_str (@pe_op _ _ _ _ _ _ _ _ op_add_str (@pe_callH _ _ _ _ _ _ _ _ _ _ C_l_saying_row (hr.mono (by omega)) rfl (@pa_cons _ _ _ _ _ (@pe_ix _ _ _ _ _ _ _ ix_tup (pv 0) pe_int (fun _ _ => rfl)) pa_nil (by rfl)) (by decide) (by rfl) (by rfl)) pe_str) (pe_callTy call_str_int (by rfl) T.b_str PyProof.Rows.boot_str (@pa_cons _ _ _ _ _ (@pe_ix _ _ _ _ _ _ _ ix_tup (pv 0) pe_int (fun _ _ => rfl)) pa_nil (by rfl))))))
        pss_nil)
      (@pss_cons _ _ _ _ _ (@ps_if _ _ _ _ _ _ _ _ (@pt_cmpR _ _ _ _ _ _ _ _ op_eq (@pe_ix _ _ _ _ _ _ _ ix_tup (pv 0) pe_int (fun _ _ => rfl)) pe_str (nomark _))
        (@pss_one _ _ _ (@ps_ret _ _ _ _ (@pe_op _ _ _ _ _ _ _ _ op_add_str pe_str (@pe_callH _ _ _ _ _ _ _ _ _ _ C_l_saying_row (hr.mono (by omega)) rfl (@pa_cons _ _ _ _ _ (@pe_ix _ _ _ _ _ _ _ ix_tup (pv 0) pe_int (fun _ _ => rfl)) pa_nil (by rfl)) (by decide) (by rfl) (by rfl)))))
        pss_nil)
      (@pss_one _ _ _ (@ps_ret _ _ _ _ (@pe_op _ _ _ _ _ _ _ _ op_add_str (@pe_kget _ _ _ _ _ _ (@pe_dictS2 _ _ _ _ _ _ _ _ _ _ _ _ _ _) (@pe_ix _ _ _ _ _ _ _ ix_tup (@pe_ix _ _ _ _ _ _ _ ix_tup (pv 0) pe_int (fun _ _ => rfl)) pe_int (fun _ _ => rfl)) (fun _ _ => rfl)) (pe_callTy call_str_int (by rfl) T.b_str PyProof.Rows.boot_str (@pa_cons _ _ _ _ _ (@pe_ix _ _ _ _ _ _ _ ix_tup (@pe_ix _ _ _ _ _ _ _ ix_tup (pv 0) pe_int (fun _ _ => rfl)) pe_int (fun _ _ => rfl)) pa_nil (by rfl))))))))), ?_⟩
    cases g with
    | zero => exact nomatch (show Empty from s)
    | succ g =>
    have hg : g ≤ d := by omega
    match (show SyF (Sy g) from s), (show SayF H (SayR H g) v (show SyF (Sy g) from s) from rs), (show Good n fl (g + 1) (show SyF (Sy g) from s) from gs), (show nod (g + 1) (show SyF (Sy g) from s) ≤ 3280 from ns), (show ∀ H', Same H H' → Q (.str (txt (g + 1) (show SyF (Sy g) from s))) H' from q) with
    | .row l, ⟨p, p2, us, e, h1, h2, pr⟩, gs, ns, q =>
      subst e
      refine ⟨_, rfl, p, _, _, _, rfl, rfl, SqT.of h1, rfl, rfl, _, rfl, ifp rfl ?_⟩
      obtain ⟨bs, eb1, eb2, hR⟩ := prd_zip pr
      subst eb1 eb2
      have ns : 1 + ((bs.map (·.2)).map (nod g)).sum ≤ 3280 := ns
      have nu : ∀ u ∈ bs.map (·.2), nod g u ≤ 3280 := fun u hu => by
        have := mem_sum (f := nod g) hu
        omega
      refine ⟨rfl, _, rfl, p, _, _, _, rfl, rfl, SqT.of h1, rfl, p2, rfl, ⟨_, SqT.of h2⟩, comp_grow bs (·.1) (fun _ => true) id (fun _ v b => v = V.str (txt g b.2)) (fun _ _ _ _ _ r => r) (it_tup bs (·.1) (SqT.of h2)) (fun b H' _ _ Q2 h => h H' (Same.refl _)) (fun b H' hb _ s2 Q2 h => ?_) (fit1000 (by have := gs.1; rw [List.length_map] at this; omega)) fun D ws H1 hD s1 hL pr2 => ?_⟩
      · have hm : b.2 ∈ bs.map (·.2) := List.mem_map_of_mem hb
        exact ⟨_, rfl, g, b.1, b.2, n, fl, rfl, hg, n24, SayR.mono s2.tk _ _ _ (hR b hb), gs.2 _ hm, nu _ hm, fun H4 s4 => h _ H4 s4 rfl⟩
      · rw [filter_all, List.map_id] at pr2
        have ew := prd_map (g := fun b : V × Sy g => V.str (txt g b.2)) pr2
        have ew2 : ws = ((bs.map (·.2)).map (txt g)).map V.str := by
          rw [ew, List.map_map, List.map_map]
          rfl
        rw [ew2] at hL
        have tl := txt_len n24 (g + 1) (SyF.row (bs.map (·.2)) : SyF (Sy g)) gs
        have tl2 : (Str.ofString "(" ++ Str.join (Str.ofString " ") ((bs.map (·.2)).map (txt g)) ++ Str.ofString ")").length + 2 ≤ 50 * (1 + ((bs.map (·.2)).map (nod g)).sum) := tl
        rw [strLen_append] at tl2
        have tl3 := tl2
        rw [strLen_append] at tl3
        exact ⟨_, D, _, rfl, rfl, SqL.of hL, row_join n24 gs.1 gs.2 nu, _, _, rfl, rfl, fit_big (by omega), _, _, rfl, rfl, fit_big (by omega), q H1 s1⟩
    | .tm u k, ⟨p, w, e, h1, ru⟩, gs, ns, q =>
      subst e
      have ns : 1 + nod g u ≤ 3280 := ns
      have tl := txt_len n24 g u gs.2.2.1
      have tk := iS_big gs.1 gs.2.1
      have o1 : (Str.ofString "*").length = 1 := by decide +kernel
      refine ⟨_, rfl, p, _, _, _, rfl, rfl, SqT.of h1, rfl, rfl, _, rfl, ifn rfl ⟨_, rfl, p, _, _, _, rfl, rfl, SqT.of h1, rfl, rfl, _, rfl, ifp rfl ?_⟩⟩
      refine ⟨_, rfl, p, _, _, _, rfl, rfl, SqT.of h1, rfl, g, w, u, n, fl, rfl, hg, n24, ru, gs.2.2.1, by omega, fun H2 s2 => ?_⟩
      refine ⟨_, _, rfl, rfl, fit_big (by omega), _, rfl, p, _, _, _, rfl, rfl, SqT.of (s2 _ _ h1), rfl, k, rfl, log_big gs.1 gs.2.1, _, _, rfl, rfl, ?_, q H2 s2⟩
      rw [strLen_append]
      exact fit_big (by show (txt g u).length + (Str.ofString "*").length + (iS k).length ≤ 1000000; omega)
    | .un u, ⟨p, w, e, h1, ru⟩, gs, ns, q =>
      subst e
      have ns : 1 + nod g u ≤ 3280 := ns
      have tl := txt_len n24 g u gs.1
      have o1 : (Str.ofString "~").length = 1 := by decide +kernel
      refine ⟨_, rfl, p, _, _, _, rfl, rfl, SqT.of h1, rfl, rfl, _, rfl, ifn rfl ⟨_, rfl, p, _, _, _, rfl, rfl, SqT.of h1, rfl, rfl, _, rfl, ifn rfl ⟨_, rfl, p, _, _, _, rfl, rfl, SqT.of h1, rfl, rfl, _, rfl, ifp rfl ?_⟩⟩⟩
      exact ⟨_, rfl, p, _, _, _, rfl, rfl, SqT.of h1, rfl, g, w, u, n, fl, rfl, hg, n24, ru, gs.1, by omega, fun H2 s2 => ⟨_, _, rfl, rfl, fit_big (by omega), q H2 s2⟩⟩
    | .ch t m, ⟨p, p2, e, h1, h2⟩, gs, ns, q =>
      subst e
      refine ⟨_, rfl, p, _, _, _, rfl, rfl, SqT.of h1, rfl, rfl, _, rfl, ifn rfl ⟨_, rfl, p, _, _, _, rfl, rfl, SqT.of h1, rfl, rfl, _, rfl, ifn rfl ⟨_, rfl, p, _, _, _, rfl, rfl, SqT.of h1, rfl, rfl, _, rfl, ifn rfl ?_⟩⟩⟩
      have l1 := (iS_at ⟨gs.1, Int.lt_of_lt_of_le gs.2 n24⟩).1
      have l2 := lT_len t
      refine ⟨(by decide +kernel), fun d d0 => ?_⟩
      have sd := Same.new (o := .dK [(.inr (Str.ofString "turn"), .str (Str.ofString "t")), (.inr (Str.ofString "mirror"), .str (Str.ofString "m"))]) d0
      have g : atK [((.inr (Str.ofString "turn") : Key), V.str (Str.ofString "t")), (.inr (Str.ofString "mirror"), .str (Str.ofString "m"))] (.inr (kS t)) = some (.str (lT t)) := by
        unfold atK
        cases t with
        | true =>
          rw [List.find?_cons_of_pos (by exact decide_eq_true rfl)]
          rfl
        | false =>
          rw [List.find?_cons_of_neg (by exact ne_true_of_eq_false (decide_eq_false fun z => absurd (Sum.inr.inj z) (by decide +kernel))), List.find?_cons_of_pos (by exact decide_eq_true rfl)]
          rfl
      exact ⟨_, rfl, p, _, _, _, rfl, rfl, SqT.of (sd _ _ h1), rfl, p2, _, _, _, rfl, rfl, SqT.of (sd _ _ h2), rfl, d, .inr (kS t), _, _, rfl, rfl, upd_same, g, _, rfl, p, _, _, _, rfl, rfl, SqT.of (sd _ _ h1), rfl, p2, _, _, _, rfl, rfl, SqT.of (sd _ _ h2), rfl, m, rfl, log_big gs.1 (by have := gs.2; omega), _, _, rfl, rfl, fit1000 (by show (lT t).length + (iS m).length ≤ 1000; omega), q _ sd⟩
theorem ok_l_saying_row {f : Addr} {fd : FuncData} (F : Fun K "_law_saying_row" "_law_saying_row" s_l_saying_row f fd) (T : Txt K mg) (hm : mg "_law_saying_row" = some (.ref f))   : ∀ d : Nat, FnOk P w K mg base CX0 (d * 1 + 2) f fd ["_law_saying_here"] (sp_l_saying_row (d) w K) := by
  intro d
  induction d with
  | zero => exact ⟨fun vs H Q E h => ((fun {vs H Q E} (h : sp_l_saying_row 0 w K vs H Q E) => (by obtain ⟨g, _, s, _, _, _, hg, _⟩ := h; cases g with | zero => exact nomatch (show Empty from s) | succ g => omega : False)) h).elim, fun A outer s H args us vs Q E _ _ _ _ h => ((fun {vs H Q E} (h : sp_l_saying_row 0 w K vs H Q E) => (by obtain ⟨g, _, s, _, _, _, hg, _⟩ := h; cases g with | zero => exact nomatch (show Empty from s) | succ g => omega : False)) h).elim⟩
  | succ d ih =>
    have C_l_saying_row : Has P w K mg base (d * 1 + 2) "_law_saying_row" ["_law_saying_here"] (sp_l_saying_row (d) w K) := ⟨_, _, ih, hm, F.kp, F.binds fun _ _ _ _ _ _ us hl => match us, hl with | [_], _ => rfl⟩
    exact (step_l_saying_row d F T C_l_saying_row).mono (by omega)
set_option maxHeartbeats 8000000 in
theorem ok_l_sign {f : Addr} {fd : FuncData} (F : Fun K "_law_sign" "_law_sign" s_l_sign f fd) (T : Txt K mg)  : FnOk P w K mg base CX0 1 f fd ["_law_number"] (sp_l_sign w K) := by
  refine F.ok sc_l_sign (fun vs H Q E h => ?_) (fun cdv A outer s H vs Q E hr h => ?_)
  · obtain ⟨c, rfl, c0, q⟩ := h
    rfl
  · obtain ⟨c, rfl, c0, q⟩ := h
    refine ⟨_, (@pss_cons _ _ _ _ _ (@ps_set _ _ 1 _ _ _ _ sc_l_sign.nd rfl (Or.inl rfl) pe_str (by rfl) (by first | exact Or.inl rfl | exact Or.inr rfl))
      (@pss_cons _ _ _ _ _ (@ps_set _ _ 1 _ _ _ _ sc_l_sign.nd rfl (Or.inl rfl) (@pe_op _ _ _ _ _ _ _ _ op_add_str (pv 1) pe_str) (by rfl) (by first | exact Or.inl rfl | exact Or.inr rfl))
      (@pss_cons _ _ _ _ _ (@ps_if _ _ _ _ _ _ _ _ (@pt_cmpR _ _ _ _ _ _ _ _ op_eq (@pe_op _ _ _ _ _ _ _ _ op_mod (pv 0) pe_int) pe_int (nomark _))
        (@pss_one _ _ _ (@ps_ret _ _ _ _ (@pe_ix _ _ _ _ _ _ _ ix_str pe_str (@pe_op _ _ _ _ _ _ _ _ op_mod (@pe_op _ _ _ _ _ _ _ _ op_fdiv (pv 0) pe_int) pe_int) (fun _ _ => rfl))))
        pss_nil)
      (@pss_one _ _ _ (@ps_ret _ _ _ _ (@pe_ix _ _ _ _ _ _ _ ix_str (pv 1) (@pe_op _ _ _ _ _ _ _ _ op_mod (@pe_op _ _ _ _ _ _ _ _ op_fdiv (pv 0) pe_int) (pe_callB call_len_str (by rfl) T.b_len PySem.boot_len (@pa_cons _ _ _ _ _ (pv 1) pa_nil (by rfl)))) (fun _ _ => rfl))))))), ?_⟩
    refine ⟨_, rfl, _, _, rfl, rfl, fit1000 (by decide +kernel), ?_⟩
    refine ⟨_, rfl, _, _, rfl, rfl, (by show (0 : Int) < 2; decide), rfl, _, rfl, ?_⟩
    refine if2 (fun _ => ?_) fun _ => ?_
    · refine ⟨_, rfl, _, _, rfl, rfl, ⟨by decide, by decide⟩, _, _, rfl, rfl, (by show (0 : Int) < 21; decide), ?_⟩
      exact ix_sign (by decide +kernel) (by decide +kernel) (Int.emod_nonneg _ (by decide)) (Int.emod_lt_of_pos _ (by decide)) q
    · refine ⟨_, rfl, _, rfl, _, _, rfl, rfl, ⟨by decide, by decide⟩, _, rfl, _, rfl, fit1000 (by decide +kernel), _, _, rfl, rfl, (by show (0 : Int) < ((_ : Nat) : Int); exact Int.natCast_pos.mpr (by decide +kernel)), ?_⟩
      exact ix_sign (by decide +kernel) (by decide +kernel) (Int.emod_nonneg _ (by decide +kernel)) (Int.emod_lt_of_pos _ (by decide +kernel)) q
set_option maxHeartbeats 8000000 in
theorem ok_l_bent {f : Addr} {fd : FuncData} (F : Fun K "_law_bent" "_law_bent" s_l_bent f fd) (T : Txt K mg) (C_l_sign : Has P w K mg base 1 "_law_sign" ["_law_number"] (sp_l_sign w K)) : FnOk P w K mg base CX0 2 f fd ["_law_text", "_law_number"] (sp_l_bent w K) := by
  refine F.ok sc_l_bent (fun vs H Q E h => ?_) (fun cdv A outer s H vs Q E hr h => ?_)
  · obtain ⟨t, c, rfl, c0, sg, lt, q⟩ := h
    rfl
  · obtain ⟨t, c, rfl, c0, sg, lt, q⟩ := h
    refine ⟨_, (@pss_cons _ _ _ _ _ (@ps_set _ _ 2 _ _ _ _ sc_l_bent.nd rfl (Or.inl rfl) (@pe_op _ _ _ _ _ _ _ _ op_mod (pv 1) pe_int) (by rfl) (by first | exact Or.inl rfl | exact Or.inr rfl))
      (@pss_cons _ _ _ _ _ (@ps_set _ _ 3 _ _ _ _ sc_l_bent.nd rfl (Or.inl rfl) (@pe_op _ _ _ _ _ _ _ _ op_mod (@pe_op _ _ _ _ _ _ _ _ op_fdiv (pv 1) pe_int) (@pe_op _ _ _ _ _ _ _ _ op_add (pe_callB call_len_str (by rfl) T.b_len PySem.boot_len (@pa_cons _ _ _ _ _ (pv 0) pa_nil (by rfl))) pe_int)) (by rfl) (by first | exact Or.inl rfl | exact Or.inr rfl))
      (@pss_cons _ _ _ _ _ (@ps_set _ _ 4 _ _ _ _ sc_l_bent.nd rfl (Or.inl rfl) (@pe_callH _ _ _ _ _ _ _ _ _ _ C_l_sign (hr.mono (by decide)) rfl (@pa_cons _ _ _ _ _ (@pe_op _ _ _ _ _ _ _ _ op_fdiv (pv 1) pe_int) pa_nil (by rfl)) (by decide) (by rfl) (by rfl)) (by rfl) (by first | exact Or.inl rfl | exact Or.inr rfl))
      (@pss_cons _ _ _ _ _ (@ps_if _ _ _ _ _ _ _ _ (@pt_cmpR _ _ _ _ _ _ _ _ op_eq (pv 2) pe_int (nomark _))
        (@pss_one _ _ _ (@ps_ret _ _ _ _ (pv 0)))
        pss_nil)
      (@pss_cons _ _ _ _ _ (@ps_if _ _ _ _ _ _ _ _ (@pt_cmpR _ _ _ _ _ _ _ _ op_eq (pv 2) pe_int (nomark _))
        (@pss_one _ _ _ (@ps_ret _ _ _ _ (@pe_op _ _ _ _ _ _ _ _ op_add_str (@pe_op _ _ _ _ _ _ _ _ op_add_str (pe_slice sl_str (pv 0) po_none (po_some (pv 3))) (pv 4)) (pe_slice sl_str (pv 0) (po_some (@pe_op _ _ _ _ _ _ _ _ op_add (pv 3) pe_int)) po_none))))
        pss_nil)
      (@pss_cons _ _ _ _ _ (@ps_if _ _ _ _ _ _ _ _ (@pt_cmpR _ _ _ _ _ _ _ _ op_eq (pv 2) pe_int (nomark _))
        (@pss_one _ _ _ (@ps_ret _ _ _ _ (@pe_op _ _ _ _ _ _ _ _ op_add_str (pe_slice sl_str (pv 0) po_none (po_some (pv 3))) (pe_slice sl_str (pv 0) (po_some (@pe_op _ _ _ _ _ _ _ _ op_add (pv 3) pe_int)) po_none))))
        pss_nil)
      (@pss_cons _ _ _ _ _ (@ps_if _ _ _ _ _ _ _ _ (@pt_cmpR _ _ _ _ _ _ _ _ op_eq (pv 2) pe_int (nomark _))
        (@pss_one _ _ _ (@ps_ret _ _ _ _ (pe_slice sl_str (pv 0) po_none (po_some (pv 3)))))
        pss_nil)
      (@pss_one _ _ _ (@ps_ret _ _ _ _ (@pe_op _ _ _ _ _ _ _ _ op_add_str (@pe_op _ _ _ _ _ _ _ _ op_add_str (pe_slice sl_str (pv 0) po_none (po_some (pv 3))) (pv 4)) (pe_slice sl_str (pv 0) (po_some (pv 3)) po_none))))))))))), ?_⟩
    have m0 : 0 ≤ c / 6 % ((t.length : Int) + 1) := mod_lo _ (by omega)
    have m1 : c / 6 % ((t.length : Int) + 1) < (t.length : Int) + 1 := mod_hi _ (by omega)
    refine ⟨_, rfl, _, _, rfl, rfl, (by show (0 : Int) < 6; decide), ?_⟩
    refine ⟨_, rfl, _, _, rfl, rfl, ⟨by decide, by decide⟩, _, rfl, t, rfl, fit_big (by omega), _, _, rfl, rfl, _, _, rfl, rfl, (by omega), ?_⟩
    dsimp only
    generalize c / 6 % ((t.length : Int) + 1) = k at m0 m1
    refine ⟨_, rfl, _, _, rfl, rfl, ⟨by decide, by decide⟩, _, rfl, (by omega), fun x hx => ?_⟩
    have fl := front_len (t := t) m0 (by omega)
    have bl1 := back_len (t := t) (k := k + 1) (by omega)
    have bl := back_len (t := t) m0
    have one : (⟨#[x]⟩ : Str).length = 1 := rfl
    have l3 : ∀ u : Str, (cutS t none (some k) ++ ⟨#[x]⟩ ++ u).length = k.toNat + 1 + u.length := fun u => by rw [strLen_append, strLen_append, fl, one]
    have l2 : ∀ u : Str, (cutS t none (some k) ++ u).length = k.toNat + u.length := fun u => by rw [strLen_append, fl]
    refine ⟨_, rfl, rfl, _, rfl, if2 (fun _ => ⟨_, rfl, q t sg (by omega)⟩) fun _ => ?_⟩
    refine ⟨_, rfl, rfl, _, rfl, if2 (fun _ => ?_) fun _ => ?_⟩
    · refine ⟨_, rfl, _, rfl, _, rfl, t, rfl, fit_big (by omega), _, rfl, _, _, rfl, rfl, fit_big (by rw [fl, one]; omega), _, rfl, _, rfl, _, _, rfl, rfl, _, rfl, t, rfl, fit_big (by omega), _, _, rfl, rfl, fit_big (by rw [l2, one]; omega), q _ (sg_app (sg_app (cut_sg sg _ _) (sg_one hx)) (cut_sg sg _ _)) (by rw [l3]; omega)⟩
    refine ⟨_, rfl, rfl, _, rfl, if2 (fun _ => ?_) fun _ => ?_⟩
    · refine ⟨_, rfl, _, rfl, _, rfl, t, rfl, fit_big (by omega), _, rfl, _, rfl, _, _, rfl, rfl, _, rfl, t, rfl, fit_big (by omega), _, _, rfl, rfl, fit_big (by rw [fl]; omega), q _ (sg_app (cut_sg sg _ _) (cut_sg sg _ _)) (by rw [l2]; omega)⟩
    refine ⟨_, rfl, rfl, _, rfl, if2 (fun _ => ?_) fun _ => ?_⟩
    · exact ⟨_, rfl, _, rfl, _, rfl, t, rfl, fit_big (by omega), q _ (cut_sg sg _ _) (by rw [fl]; omega)⟩
    · refine ⟨_, rfl, _, rfl, _, rfl, t, rfl, fit_big (by omega), _, rfl, _, _, rfl, rfl, fit_big (by rw [fl, one]; omega), _, rfl, _, rfl, _, rfl, t, rfl, fit_big (by omega), _, _, rfl, rfl, fit_big (by rw [l2, one]; omega), q _ (sg_app (sg_app (cut_sg sg _ _) (sg_one hx)) (cut_sg sg _ _)) (by rw [l3]; omega)⟩
set_option maxHeartbeats 8000000 in
theorem ok_l_parts {f : Addr} {fd : FuncData} (F : Fun K "_law_parts" "_law_parts" s_l_parts f fd) (T : Txt K mg)  : FnOk P w K mg base CX0 1 f fd ["_law_saying_here"] (sp_l_parts w K) := by
  refine F.ok sc_l_parts (fun vs H Q E h => ?_) (fun cdv A outer s H vs Q E hr h => ?_)
  · obtain ⟨g, v, s, rfl, rs, q⟩ := h
    rfl
  · obtain ⟨g, v, s, rfl, rs, q⟩ := h
    refine ⟨_, (@pss_cons _ _ _ _ _ (@ps_if _ _ _ _ _ _ _ _ (@pt_cmpR _ _ _ _ _ _ _ _ op_eq (@pe_ix _ _ _ _ _ _ _ ix_tup (pv 0) pe_int (fun _ _ => rfl)) pe_str (nomark _))
        (@pss_one _ _ _ (@ps_ret _ _ _ _ (pe_callTy call_list_of (by rfl) T.b_list PyProof.Rows.boot_list (@pa_cons _ _ _ _ _ (@pe_ix _ _ _ _ _ _ _ ix_tup (pv 0) pe_int (fun _ _ => rfl)) pa_nil (by rfl)))))
        pss_nil)
      (@pss_cons _ _ _ _ _ (@ps_if _ _ _ _ _ _ _ _ (@pt_cmpR _ _ _ _ _ _ _ _ op_eq (@pe_ix _ _ _ _ _ _ _ ix_tup (pv 0) pe_int (fun _ _ => rfl)) pe_str (nomark _))
        (@pss_one _ _ _ (@ps_ret _ _ _ _ (@pe_lst _ _ _ _ pa_nil)))
        pss_nil)
      (@pss_one _ _ _ (@ps_ret _ _ _ _ (@pe_lst _ _ _ _ (@pa_cons _ _ _ _ _ (@pe_ix _ _ _ _ _ _ _ ix_tup (pv 0) pe_int (fun _ _ => rfl)) pa_nil (by rfl))))))), ?_⟩
    match s, rs, q with
    | .row l, ⟨p, p2, us, e, h1, h2, pr⟩, q =>
      subst e
      exact ⟨_, rfl, p, _, _, _, rfl, rfl, SqT.of h1, rfl, rfl, _, rfl, ifp rfl ⟨_, rfl, p, _, _, _, rfl, rfl, SqT.of h1, rfl, p2, us, rfl, .inr (SqT.of h2), fun r r0 => q r us _ (Same.new r0) upd_same (prd_imp (fun x y z => SayR.mono (Same.new r0).tk _ _ _ z) pr)⟩⟩
    | .ch t m, ⟨p, p2, e, h1, h2⟩, q =>
      subst e
      exact ⟨_, rfl, p, _, _, _, rfl, rfl, SqT.of h1, rfl, rfl, _, rfl, ifn rfl ⟨_, rfl, p, _, _, _, rfl, rfl, SqT.of h1, rfl, rfl, _, rfl, ifp rfl ⟨(by show 0 ≤ sizeLine; decide), fun r r0 => q r [] _ (Same.new r0) upd_same .nil⟩⟩⟩
    | .tm u k, ⟨p, w, e, h1, ru⟩, q =>
      subst e
      exact ⟨_, rfl, p, _, _, _, rfl, rfl, SqT.of h1, rfl, rfl, _, rfl, ifn rfl ⟨_, rfl, p, _, _, _, rfl, rfl, SqT.of h1, rfl, rfl, _, rfl, ifn rfl ⟨_, rfl, p, _, _, _, rfl, rfl, SqT.of h1, rfl, (by show 1 ≤ sizeLine; decide), fun r r0 => q r [w] _ (Same.new r0) upd_same (.cons (SayR.mono (Same.new r0).tk _ _ _ ru) .nil)⟩⟩⟩
    | .un u, ⟨p, w, e, h1, ru⟩, q =>
      subst e
      exact ⟨_, rfl, p, _, _, _, rfl, rfl, SqT.of h1, rfl, rfl, _, rfl, ifn rfl ⟨_, rfl, p, _, _, _, rfl, rfl, SqT.of h1, rfl, rfl, _, rfl, ifn rfl ⟨_, rfl, p, _, _, _, rfl, rfl, SqT.of h1, rfl, (by show 1 ≤ sizeLine; decide), fun r r0 => q r [w] _ (Same.new r0) upd_same (.cons (SayR.mono (Same.new r0).tk _ _ _ ru) .nil)⟩⟩⟩
set_option maxHeartbeats 8000000 in
theorem step_l_deep (d : Nat) {f : Addr} {fd : FuncData} (F : Fun K "_law_deep" "_law_deep" s_l_deep f fd) (T : Txt K mg) (C_l_deep : Has P w K mg base (d * 1 + 2) "_law_deep" ["_law_saying_here"] (sp_l_deep (d) w K)) (C_l_parts : Has P w K mg base 1 "_law_parts" ["_law_saying_here"] (sp_l_parts w K)) : FnOk P w K mg base CX0 (d * 1 + 3) f fd ["_law_saying_here"] (sp_l_deep (d + 1) w K) := by
  refine F.ok sc_l_deep (fun vs H Q E h => ?_) (fun cdv A outer s H vs Q E hr h => ?_)
  · obtain ⟨g, v, s, rfl, hg, rs, ns, q⟩ := h
    rfl
  · obtain ⟨g, v, s, rfl, hg, rs, ns, q⟩ := h
    refine ⟨_, (@pss_one _ _ _ (@ps_ret _ _ _ _ (@pe_op _ _ _ _ _ _ _ _ op_add pe_int (pe_maxD rfl (by rfl) T.b_max (pe_comp (ys := []) (js := []) ⟨by rfl, of_decide_eq_true (by kernel_rfl), of_decide_eq_true (by kernel_rfl), by rfl, of_decide_eq_true (by kernel_rfl), of_decide_eq_true (by kernel_rfl), by rfl, of_decide_eq_true (by kernel_rfl)⟩ rfl (pi_list (@pe_callH _ _ _ _ _ _ _ _ _ _ C_l_parts (hr.mono (by omega)) rfl (@pa_cons _ _ _ _ _ (pv 0) pa_nil (by rfl)) (by decide) (by rfl) (by rfl))) (fun _ _ _ _ _ => pts_nil) (fun _ _ _ _ _ => (@pe_callH _ _ _ _ _ _ _ _ _ _ C_l_deep (hr.mono (by omega)) rfl (@pa_cons _ _ _ _ _ (pv 0) pa_nil (by rfl)) (by decide) (by rfl) (by rfl)))))))), ?_⟩
    cases g with
    | zero => exact nomatch (show Empty from s)
    | succ g =>
    obtain ⟨z, ez⟩ : ∃ z : SyF (Sy g), z = (show SyF (Sy g) from s) := ⟨_, rfl⟩
    have nk : nod (g + 1) s = 1 + ((kids z).map (nod g)).sum := by rw [ez]; exact nod_kids _
    have dk : dep (g + 1) s = 1 + maxL ((kids z).map (dep g)) := by rw [ez]; rfl
    refine ⟨_, rfl, g, v, z, rfl, (by rw [ez]; exact rs), fun r us H1 s1 hr0 pr => ?_⟩
    obtain ⟨bs, eb1, eb2, hR⟩ := prd_zip pr
    subst eb1
    rw [← eb2] at nk dk
    have ln := kids_len bs
    have nu : ∀ b ∈ bs, nod g b.2 ≤ 10000 := fun b hb => by
      have := mem_sum (f := nod g) (List.mem_map_of_mem (f := (·.2)) hb)
      omega
    refine ⟨r, rfl, ⟨_, SqL.of hr0⟩, comp_int bs (·.1) (fun _ => true) (fun b => ((dep g b.2 : Nat) : Int)) (it_list bs (·.1) (SqL.of hr0)) (fun b H' _ _ Q2 h => h H' (Same.refl _)) (fun b H' hb _ s2 Q2 h => ⟨_, rfl, g, b.1, b.2, rfl, by omega, SayR.mono s2.tk _ _ _ (hR b hb), nu b hb, fun H4 s4 => h H4 s4⟩) (fit_big (by omega)) fun D H2 hD s2 hL => ?_⟩
    rw [filter_all] at hL
    have fin : ∀ m : Int, m = ((maxL ((bs.map (·.2)).map (dep g)) : Nat) : Int) → Q (.int (1 + m)) H2 := fun m e => by
      have e2 : (1 : Int) + m = ((dep (g + 1) s : Nat) : Int) := by rw [e, dk]; omega
      rw [e2]
      exact q H2 (s1.trans s2)
    refine ⟨D, _, rfl, SqL.of hL, (fun e => ⟨_, _, rfl, rfl, fin _ ?_⟩), fun m hm hx => ⟨_, _, rfl, rfl, fin m ?_⟩⟩
    · have : bs = [] := List.map_eq_nil_iff.mp e
      rw [this]
      rfl
    · obtain ⟨b, hb, rfl⟩ := List.mem_map.mp hm
      have a1 : dep g b.2 ≤ maxL ((bs.map (·.2)).map (dep g)) := maxL_ge (List.mem_map_of_mem (List.mem_map_of_mem (f := (·.2)) hb))
      have a2 : maxL ((bs.map (·.2)).map (dep g)) ∈ (bs.map (·.2)).map (dep g) := maxL_mem fun e => by
        have := List.map_eq_nil_iff.mp (List.map_eq_nil_iff.mp e)
        rw [this] at hb
        cases hb
      obtain ⟨u, hu, eu⟩ := List.mem_map.mp a2
      obtain ⟨b2, hb2, rfl⟩ := List.mem_map.mp hu
      have := hx _ (List.mem_map_of_mem hb2)
      omega
theorem ok_l_deep {f : Addr} {fd : FuncData} (F : Fun K "_law_deep" "_law_deep" s_l_deep f fd) (T : Txt K mg) (hm : mg "_law_deep" = some (.ref f))  (C_l_parts : Has P w K mg base 1 "_law_parts" ["_law_saying_here"] (sp_l_parts w K)) : ∀ d : Nat, FnOk P w K mg base CX0 (d * 1 + 2) f fd ["_law_saying_here"] (sp_l_deep (d) w K) := by
  intro d
  induction d with
  | zero => exact ⟨fun vs H Q E h => ((fun {vs H Q E} (h : sp_l_deep 0 w K vs H Q E) => (by obtain ⟨g, _, s, _, hg, _⟩ := h; cases g with | zero => exact nomatch (show Empty from s) | succ g => omega : False)) h).elim, fun A outer s H args us vs Q E _ _ _ _ h => ((fun {vs H Q E} (h : sp_l_deep 0 w K vs H Q E) => (by obtain ⟨g, _, s, _, hg, _⟩ := h; cases g with | zero => exact nomatch (show Empty from s) | succ g => omega : False)) h).elim⟩
  | succ d ih =>
    have C_l_deep : Has P w K mg base (d * 1 + 2) "_law_deep" ["_law_saying_here"] (sp_l_deep (d) w K) := ⟨_, _, ih, hm, F.kp, F.binds fun _ _ _ _ _ _ us hl => match us, hl with | [_], _ => rfl⟩
    exact (step_l_deep d F T C_l_deep C_l_parts).mono (by omega)
set_option maxHeartbeats 8000000 in
theorem step_l_good (d : Nat) {f : Addr} {fd : FuncData} (F : Fun K "_law_good" "_law_good" s_l_good f fd) (T : Txt K mg) (C_l_good : Has P w K mg base (d * 1 + 2) "_law_good" ["_law_n", "_law_saying_here"] (sp_l_good (d) w K)) (C_l_parts : Has P w K mg base 1 "_law_parts" ["_law_saying_here"] (sp_l_parts w K)) : FnOk P w K mg base CX0 (d * 1 + 3) f fd ["_law_n", "_law_saying_here"] (sp_l_good (d + 1) w K) := by
  refine F.ok sc_l_good (fun vs H Q E h => ?_) (fun cdv A outer s H vs Q E hr h => ?_)
  · obtain ⟨g, v, s, n, rfl, hg, n24, rs, gs, ns, q⟩ := h
    rfl
  · obtain ⟨g, v, s, n, rfl, hg, n24, rs, gs, ns, q⟩ := h
    refine ⟨_, (@pss_cons _ _ _ _ _ (@ps_if _ _ _ _ _ _ _ _ (@pt_cmpR _ _ _ _ _ _ _ _ op_eq (@pe_ix _ _ _ _ _ _ _ ix_tup (pv 1) pe_int (fun _ _ => rfl)) pe_str (nomark _))
        (@pss_one _ _ _ (@ps_ret _ _ _ _ (pe_and (@pe_cmpR _ _ _ _ _ _ _ _ op_in_seq (@pe_ix _ _ _ _ _ _ _ ix_tup (@pe_ix _ _ _ _ _ _ _ ix_tup (pv 1) pe_int (fun _ _ => rfl)) pe_int (fun _ _ => rfl)) (@pe_lst _ _ _ _ (@pa_cons _ _ _ _ _ pe_str (@pa_cons _ _ _ _ _ pe_str pa_nil (by rfl)) (by rfl))) rfl) (pe_one (pe_chain op_le op_lt pe_int (@pe_ix _ _ _ _ _ _ _ ix_tup (@pe_ix _ _ _ _ _ _ _ ix_tup (pv 1) pe_int (fun _ _ => rfl)) pe_int (fun _ _ => rfl)) (pv 0))))))
        pss_nil)
      (@pss_cons _ _ _ _ _ (@ps_if _ _ _ _ _ _ _ _ (PW.pt (pw_and (@pt_cmpR _ _ _ _ _ _ _ _ op_eq (@pe_ix _ _ _ _ _ _ _ ix_tup (pv 1) pe_int (fun _ _ => rfl)) pe_str (nomark _)) (pw_and1 (pt_not (pt_chain op_le op_le pe_int (@pe_ix _ _ _ _ _ _ _ ix_tup (pv 1) pe_int (fun _ _ => rfl)) (@pe_op _ _ _ _ _ _ _ _ op_pow pe_int pe_int))))))
        (@pss_one _ _ _ (@ps_ret _ _ _ _ pe_bl))
        pss_nil)
      (@pss_one _ _ _ (@ps_ret _ _ _ _ (pe_callB (call_all rfl) (by rfl) T.b_all PyProof.Rows.boot_all (@pa_cons _ _ _ _ _ (pe_comp (ys := ["_law_n"]) (js := [0]) ⟨by rfl, of_decide_eq_true (by kernel_rfl), of_decide_eq_true (by kernel_rfl), by rfl, of_decide_eq_true (by kernel_rfl), of_decide_eq_true (by kernel_rfl), by rfl, of_decide_eq_true (by kernel_rfl)⟩ rfl (pi_list (@pe_callH _ _ _ _ _ _ _ _ _ _ C_l_parts (hr.mono (by omega)) rfl (@pa_cons _ _ _ _ _ (pv 1) pa_nil (by rfl)) (by decide) (by rfl) (by rfl))) (fun _ _ _ _ _ => pts_nil) (fun _ _ _ _ _ => (@pe_callH _ _ _ _ _ _ _ _ _ _ C_l_good (hr.mono (by omega)) rfl (@pa_cons _ _ _ _ _ (pv 1) (@pa_cons _ _ _ _ _ (pv 0) pa_nil (by rfl)) (by rfl)) (by decide) (by rfl) (by rfl)))) pa_nil (by rfl))))))), ?_⟩
    cases g with
    | zero => exact nomatch (show Empty from s)
    | succ g =>
    obtain ⟨z, ez⟩ : ∃ z : SyF (Sy g), z = (show SyF (Sy g) from s) := ⟨_, rfl⟩
    have nk : nod (g + 1) s = 1 + ((kids z).map (nod g)).sum := by rw [ez]; exact nod_kids _
    have tl : ∀ b ∈ kids z, Good n 0 g b := by
      rw [ez]
      match (show SyF (Sy g) from s), (show Good n 0 (g + 1) (show SyF (Sy g) from s) from gs) with
      | .ch _ _, _ => exact fun b hb => by cases hb
      | .row l, gs => exact gs.2
      | .tm u k, gs => exact fun b hb => by rw [List.mem_singleton.mp hb]; exact gs.2.2.1
      | .un u, gs => exact fun b hb => by rw [List.mem_singleton.mp hb]; exact gs.1
    have rz : SayF H (SayR H g) v z := by rw [ez]; exact rs
    have gz : Good n 0 (g + 1) z := by rw [ez]; exact gs
    clear ez
    match z, rz, gz, tl, nk with
    | .ch t m, ⟨p, p2, e, h1, h2⟩, gz, _, _ =>
      subst e
      have gz : 0 ≤ m ∧ m < n := gz
      refine ⟨_, rfl, p, _, _, _, rfl, rfl, SqT.of h1, rfl, rfl, _, rfl, ifp rfl ⟨_, rfl, p, _, _, _, rfl, rfl, SqT.of h1, rfl, p2, _, _, _, rfl, rfl, SqT.of h2, rfl, two_fit, fun l l0 => ?_⟩⟩
      refine ⟨l, _, rfl, .inl (SqL.of upd_same), rfl, rfl, ?_⟩
      rw [show (if false = true then !inV (V.str (kS t)) [V.str "turn", V.str "mirror"] else inV (V.str (kS t)) [V.str "turn", V.str "mirror"]) = true by cases t <;> decide +kernel]
      refine ⟨true, rfl, ifp rfl ?_⟩
      refine ⟨_, rfl, p, _, _, _, rfl, rfl, SqT.of (Same.new l0 _ _ h1), rfl, p2, _, _, _, rfl, rfl, SqT.of (Same.new l0 _ _ h2), rfl, _, _, rfl, rfl, _, rfl, ifp (decide_eq_true gz.1) ⟨_, rfl, _, _, rfl, rfl, ?_⟩⟩
      show Q (V.bl (decide (m < n))) _
      rw [decide_eq_true gz.2]
      exact q _ (Same.new l0)
    | .row l, ⟨p, p2, us, e, h1, h2, pr⟩, gz, tl, nk =>
      subst e
      refine ⟨_, rfl, p, _, _, _, rfl, rfl, SqT.of h1, rfl, rfl, _, rfl, ifn rfl ⟨_, rfl, p, _, _, _, rfl, rfl, SqT.of h1, rfl, rfl, _, rfl, ifn rfl (ifn rfl ?_)⟩⟩
      refine ⟨_, rfl, g, .ref p, (SyF.row l), rfl, ⟨p, p2, us, rfl, h1, h2, pr⟩, fun r us H1 s1 hr0 pr => ?_⟩
      obtain ⟨bs, eb1, eb2, hR⟩ := prd_zip pr
      subst eb1
      rw [← eb2] at nk tl
      have ln := kids_len bs
      have nu : ∀ b ∈ bs, nod g b.2 ≤ 10000 := fun b hb => by
        have := mem_sum (f := nod g) (List.mem_map_of_mem (f := (·.2)) hb)
        omega
      refine ⟨r, rfl, ⟨_, SqL.of hr0⟩, comp_grow bs (·.1) (fun _ => true) (fun _ => true) (fun _ v b => v = V.bl b) (fun _ _ _ _ _ r => r) (it_list bs (·.1) (SqL.of hr0)) (fun b H' _ _ Q2 h => h H' (Same.refl _)) (fun b H' hb _ s2 Q2 h => ⟨_, rfl, _, rfl, g, b.1, b.2, n, rfl, by omega, n24, SayR.mono s2.tk _ _ _ (hR b hb), tl _ (List.mem_map_of_mem hb), nu b hb, fun H4 s4 => h _ H4 s4 rfl⟩) (fit_big (by omega)) fun D ws H2 hD s2 hL pr2 => ?_⟩
      have ew := prd_map (g := V.bl) pr2
      rw [ew] at hL
      refine ⟨D, _, rfl, SqL.of hL, ?_⟩
      rw [show (((bs.filter fun _ => true).map fun _ => true).all id) = true by
        rw [List.all_eq_true]
        intro x hx
        obtain ⟨_, _, rfl⟩ := List.mem_map.mp hx
        rfl]
      exact q H2 (s1.trans s2)
    | .tm u k, ⟨p, w, e, h1, ru⟩, gz, tl, nk =>
      subst e
      have gz : 0 ≤ k ∧ k ≤ 10 ^ 30 ∧ Good n 0 g u ∧ ((0 : Int) = 0 → ¬ isTm g u) := gz
      refine ⟨_, rfl, p, _, _, _, rfl, rfl, SqT.of h1, rfl, rfl, _, rfl, ifn rfl ⟨_, rfl, p, _, _, _, rfl, rfl, SqT.of h1, rfl, rfl, _, rfl, ifp rfl ?_⟩⟩
      refine ⟨_, rfl, p, _, _, _, rfl, rfl, SqT.of h1, rfl, _, _, rfl, rfl, _, rfl, ifp (decide_eq_true gz.1) ⟨_, _, rfl, rfl, pow_ok (by decide) (by decide), _, _, rfl, rfl, true, (by show V.bl (decide (k ≤ 10 ^ (30 : Int).toNat)) = V.bl true; rw [decide_eq_true (show k ≤ 10 ^ (30 : Int).toNat from gz.2.1)]), ifn rfl ?_⟩⟩
      refine ⟨_, rfl, g, .ref p, (SyF.tm u k), rfl, ⟨p, w, rfl, h1, ru⟩, fun r us H1 s1 hr0 pr => ?_⟩
      obtain ⟨bs, eb1, eb2, hR⟩ := prd_zip pr
      subst eb1
      rw [← eb2] at nk tl
      have ln := kids_len bs
      have nu : ∀ b ∈ bs, nod g b.2 ≤ 10000 := fun b hb => by
        have := mem_sum (f := nod g) (List.mem_map_of_mem (f := (·.2)) hb)
        omega
      refine ⟨r, rfl, ⟨_, SqL.of hr0⟩, comp_grow bs (·.1) (fun _ => true) (fun _ => true) (fun _ v b => v = V.bl b) (fun _ _ _ _ _ r => r) (it_list bs (·.1) (SqL.of hr0)) (fun b H' _ _ Q2 h => h H' (Same.refl _)) (fun b H' hb _ s2 Q2 h => ⟨_, rfl, _, rfl, g, b.1, b.2, n, rfl, by omega, n24, SayR.mono s2.tk _ _ _ (hR b hb), tl _ (List.mem_map_of_mem hb), nu b hb, fun H4 s4 => h _ H4 s4 rfl⟩) (fit_big (by omega)) fun D ws H2 hD s2 hL pr2 => ?_⟩
      have ew := prd_map (g := V.bl) pr2
      rw [ew] at hL
      refine ⟨D, _, rfl, SqL.of hL, ?_⟩
      rw [show (((bs.filter fun _ => true).map fun _ => true).all id) = true by
        rw [List.all_eq_true]
        intro x hx
        obtain ⟨_, _, rfl⟩ := List.mem_map.mp hx
        rfl]
      exact q H2 (s1.trans s2)
    | .un u, ⟨p, w, e, h1, ru⟩, gz, tl, nk =>
      subst e
      refine ⟨_, rfl, p, _, _, _, rfl, rfl, SqT.of h1, rfl, rfl, _, rfl, ifn rfl ⟨_, rfl, p, _, _, _, rfl, rfl, SqT.of h1, rfl, rfl, _, rfl, ifn rfl (ifn rfl ?_)⟩⟩
      refine ⟨_, rfl, g, .ref p, (SyF.un u), rfl, ⟨p, w, rfl, h1, ru⟩, fun r us H1 s1 hr0 pr => ?_⟩
      obtain ⟨bs, eb1, eb2, hR⟩ := prd_zip pr
      subst eb1
      rw [← eb2] at nk tl
      have ln := kids_len bs
      have nu : ∀ b ∈ bs, nod g b.2 ≤ 10000 := fun b hb => by
        have := mem_sum (f := nod g) (List.mem_map_of_mem (f := (·.2)) hb)
        omega
      refine ⟨r, rfl, ⟨_, SqL.of hr0⟩, comp_grow bs (·.1) (fun _ => true) (fun _ => true) (fun _ v b => v = V.bl b) (fun _ _ _ _ _ r => r) (it_list bs (·.1) (SqL.of hr0)) (fun b H' _ _ Q2 h => h H' (Same.refl _)) (fun b H' hb _ s2 Q2 h => ⟨_, rfl, _, rfl, g, b.1, b.2, n, rfl, by omega, n24, SayR.mono s2.tk _ _ _ (hR b hb), tl _ (List.mem_map_of_mem hb), nu b hb, fun H4 s4 => h _ H4 s4 rfl⟩) (fit_big (by omega)) fun D ws H2 hD s2 hL pr2 => ?_⟩
      have ew := prd_map (g := V.bl) pr2
      rw [ew] at hL
      refine ⟨D, _, rfl, SqL.of hL, ?_⟩
      rw [show (((bs.filter fun _ => true).map fun _ => true).all id) = true by
        rw [List.all_eq_true]
        intro x hx
        obtain ⟨_, _, rfl⟩ := List.mem_map.mp hx
        rfl]
      exact q H2 (s1.trans s2)
theorem ok_l_good {f : Addr} {fd : FuncData} (F : Fun K "_law_good" "_law_good" s_l_good f fd) (T : Txt K mg) (hm : mg "_law_good" = some (.ref f))  (C_l_parts : Has P w K mg base 1 "_law_parts" ["_law_saying_here"] (sp_l_parts w K)) : ∀ d : Nat, FnOk P w K mg base CX0 (d * 1 + 2) f fd ["_law_n", "_law_saying_here"] (sp_l_good (d) w K) := by
  intro d
  induction d with
  | zero => exact ⟨fun vs H Q E h => ((fun {vs H Q E} (h : sp_l_good 0 w K vs H Q E) => (by obtain ⟨g, _, s, _, _, hg, _⟩ := h; cases g with | zero => exact nomatch (show Empty from s) | succ g => omega : False)) h).elim, fun A outer s H args us vs Q E _ _ _ _ h => ((fun {vs H Q E} (h : sp_l_good 0 w K vs H Q E) => (by obtain ⟨g, _, s, _, _, hg, _⟩ := h; cases g with | zero => exact nomatch (show Empty from s) | succ g => omega : False)) h).elim⟩
  | succ d ih =>
    have C_l_good : Has P w K mg base (d * 1 + 2) "_law_good" ["_law_n", "_law_saying_here"] (sp_l_good (d) w K) := ⟨_, _, ih, hm, F.kp, F.binds fun _ _ _ _ _ _ us hl => match us, hl with | [_, _], _ => rfl⟩
    exact (step_l_good d F T C_l_good C_l_parts).mono (by omega)
set_option maxHeartbeats 8000000 in
theorem step_l_many (d : Nat) {f : Addr} {fd : FuncData} (F : Fun K "_law_many" "_law_many" s_l_many f fd) (T : Txt K mg) (C_l_many : Has P w K mg base (d * 1 + 2) "_law_many" ["_law_saying_here"] (sp_l_many (d) w K)) (C_l_parts : Has P w K mg base 1 "_law_parts" ["_law_saying_here"] (sp_l_parts w K)) : FnOk P w K mg base CX0 (d * 1 + 3) f fd ["_law_saying_here"] (sp_l_many (d + 1) w K) := by
  refine F.ok sc_l_many (fun vs H Q E h => ?_) (fun cdv A outer s H vs Q E hr h => ?_)
  · obtain ⟨g, v, s, rfl, hg, rs, ns, q⟩ := h
    rfl
  · obtain ⟨g, v, s, rfl, hg, rs, ns, q⟩ := h
    refine ⟨_, (@pss_one _ _ _ (@ps_ret _ _ _ _ (@pe_op _ _ _ _ _ _ _ _ op_add pe_int (pe_callB (call_sum rfl) (by rfl) T.b_sum PyProof.Rows.boot_sum (@pa_cons _ _ _ _ _ (pe_comp (ys := []) (js := []) ⟨by rfl, of_decide_eq_true (by kernel_rfl), of_decide_eq_true (by kernel_rfl), by rfl, of_decide_eq_true (by kernel_rfl), of_decide_eq_true (by kernel_rfl), by rfl, of_decide_eq_true (by kernel_rfl)⟩ rfl (pi_list (@pe_callH _ _ _ _ _ _ _ _ _ _ C_l_parts (hr.mono (by omega)) rfl (@pa_cons _ _ _ _ _ (pv 0) pa_nil (by rfl)) (by decide) (by rfl) (by rfl))) (fun _ _ _ _ _ => pts_nil) (fun _ _ _ _ _ => (@pe_callH _ _ _ _ _ _ _ _ _ _ C_l_many (hr.mono (by omega)) rfl (@pa_cons _ _ _ _ _ (pv 0) pa_nil (by rfl)) (by decide) (by rfl) (by rfl)))) pa_nil (by rfl)))))), ?_⟩
    cases g with
    | zero => exact nomatch (show Empty from s)
    | succ g =>
    obtain ⟨z, ez⟩ : ∃ z : SyF (Sy g), z = (show SyF (Sy g) from s) := ⟨_, rfl⟩
    have nk : nod (g + 1) s = 1 + ((kids z).map (nod g)).sum := by rw [ez]; exact nod_kids _
    refine ⟨_, rfl, g, v, z, rfl, (by rw [ez]; exact rs), fun r us H1 s1 hr0 pr => ?_⟩
    obtain ⟨bs, eb1, eb2, hR⟩ := prd_zip pr
    subst eb1
    rw [← eb2] at nk
    have ln : bs.length ≤ 10000 := by
      have one : ∀ (l : List (Sy g)), l.length ≤ (l.map (nod g)).sum ∨ g = 0 := fun l => by
        cases g with
        | zero => exact .inr rfl
        | succ g =>
          left
          induction l with
          | nil => exact Nat.le_refl _
          | cons u l ih =>
            have : 1 ≤ nod (g + 1) u := Nat.le_trans (Nat.le_add_right 1 _) (Nat.le_of_eq (nod_kids (show SyF (Sy g) from u)).symm)
            show l.length + 1 ≤ nod (g + 1) u + (l.map (nod (g + 1))).sum
            omega
      rcases one (bs.map (·.2)) with h | h
      · rw [List.length_map] at h
        omega
      · subst h
        cases bs with
        | nil => exact Nat.zero_le _
        | cons b bs => exact nomatch (show Empty from b.2)
    have nu : ∀ b ∈ bs, nod g b.2 ≤ 10000 := fun b hb => by
      have := mem_sum (f := nod g) (List.mem_map_of_mem (f := (·.2)) hb)
      omega
    refine ⟨r, rfl, ⟨_, SqL.of hr0⟩, comp_int bs (·.1) (fun _ => true) (fun b => ((nod g b.2 : Nat) : Int)) (it_list bs (·.1) (SqL.of hr0)) (fun b H' _ _ Q2 h => h H' (Same.refl _)) (fun b H' hb _ s2 Q2 h => ⟨_, rfl, g, b.1, b.2, rfl, by omega, SayR.mono s2.tk _ _ _ (hR b hb), nu b hb, fun H4 s4 => h H4 s4⟩) (fit_big (by omega)) fun D H2 hD s2 hL => ?_⟩
    rw [filter_all] at hL
    refine ⟨D, _, rfl, SqL.of hL, _, _, rfl, rfl, ?_⟩
    have es : (bs.map fun b => ((nod g b.2 : Nat) : Int)).sum = ((((bs.map (·.2)).map (nod g)).sum : Nat) : Int) := by
      clear hL nk ln nu hR eb2 pr hr0
      induction bs with
      | nil => rfl
      | cons b bs ih =>
        show ((nod g b.2 : Nat) : Int) + (bs.map fun b => ((nod g b.2 : Nat) : Int)).sum = ((nod g b.2 + ((bs.map (·.2)).map (nod g)).sum : Nat) : Int)
        rw [ih]
        omega
    have e : (1 : Int) + (bs.map fun b => ((nod g b.2 : Nat) : Int)).sum = ((nod (g + 1) s : Nat) : Int) := by
      rw [es, nk]
      omega
    show Q (.int ((1 : Int) + (bs.map fun b => ((nod g b.2 : Nat) : Int)).sum)) H2
    rw [e]
    exact q H2 (s1.trans s2)
theorem ok_l_many {f : Addr} {fd : FuncData} (F : Fun K "_law_many" "_law_many" s_l_many f fd) (T : Txt K mg) (hm : mg "_law_many" = some (.ref f))  (C_l_parts : Has P w K mg base 1 "_law_parts" ["_law_saying_here"] (sp_l_parts w K)) : ∀ d : Nat, FnOk P w K mg base CX0 (d * 1 + 2) f fd ["_law_saying_here"] (sp_l_many (d) w K) := by
  intro d
  induction d with
  | zero => exact ⟨fun vs H Q E h => ((fun {vs H Q E} (h : sp_l_many 0 w K vs H Q E) => (by obtain ⟨g, _, s, _, hg, _⟩ := h; cases g with | zero => exact nomatch (show Empty from s) | succ g => omega : False)) h).elim, fun A outer s H args us vs Q E _ _ _ _ h => ((fun {vs H Q E} (h : sp_l_many 0 w K vs H Q E) => (by obtain ⟨g, _, s, _, hg, _⟩ := h; cases g with | zero => exact nomatch (show Empty from s) | succ g => omega : False)) h).elim⟩
  | succ d ih =>
    have C_l_many : Has P w K mg base (d * 1 + 2) "_law_many" ["_law_saying_here"] (sp_l_many (d) w K) := ⟨_, _, ih, hm, F.kp, F.binds fun _ _ _ _ _ _ us hl => match us, hl with | [_], _ => rfl⟩
    exact (step_l_many d F T C_l_many C_l_parts).mono (by omega)
set_option maxHeartbeats 8000000 in
theorem ok_l_read {f : Addr} {fd : FuncData} (F : Fun K "_law_read" "_law_read" s_l_read f fd) (T : Txt K mg) (C_l_deep : Has P w K mg base (20 * 1 + 2) "_law_deep" ["_law_saying_here"] (sp_l_deep (20) w K)) (C_l_good : Has P w K mg base (20 * 1 + 2) "_law_good" ["_law_n", "_law_saying_here"] (sp_l_good (20) w K)) (C_l_many : Has P w K mg base (20 * 1 + 2) "_law_many" ["_law_saying_here"] (sp_l_many (20) w K)) (C_l_saying_row : Has P w K mg base (20 * 1 + 2) "_law_saying_row" ["_law_saying_here"] (sp_l_saying_row (20) w K)) (C_read_saying : HasX P w K mg base 60 "read_saying" ["n", "text"] (sp_read_saying w K)) : FnOk P w K mg base CX0 62 f fd ["_law_n", "_law_text"] (sp_l_read w K) := by
  refine F.ok sc_l_read (fun vs H Q E h => ?_) (fun cdv A outer s H vs Q E hr h => ?_)
  · obtain ⟨n, t, rfl, n3, n24, sg, lt, q⟩ := h
    rfl
  · obtain ⟨n, t, rfl, n3, n24, sg, lt, q⟩ := h
    obtain ⟨c_ToneError, c_NoText, c_NoHalf, c_NoLeading, c_NoRow, c_Unknown, hm_ToneError, hm_NoText, hm_NoHalf, hm_NoLeading, hm_NoRow, hm_Unknown, ns_NoText, ex_NoText, xm_NoText, xo_NoText, k1_NoText, k2_NoText, k3_NoText⟩ := T.g_EXCS
    refine ⟨_, (@pss_cons _ _ _ _ _ (ps_trySet (j := 2) (i := 3) rfl rfl rfl ⟨rfl, rfl⟩ C_read_saying (hr.mono (by decide)) rfl (fun _ => (@pa_cons _ _ _ _ _ (pv 0) (@pa_cons _ _ _ _ _ (pv 1) pa_nil (by rfl)) (by rfl))) (by rfl) hm_ToneError sc_l_read.nd rfl rfl rfl rfl (fun a oe cls hcl =>
        (@pss_cons _ _ _ _ _ (@ps_set _ _ 4 _ _ _ _ sc_l_read.nd rfl (Or.inl rfl) (pe_callB (call_isX hcl) (by rfl) T.b_isinstance PyProof.Rows.boot_isinstance (@pa_cons _ _ _ _ _ (pv 3) (@pa_cons _ _ _ _ _ (@pe_tup _ _ _ _ _ (@pa_cons _ _ _ _ _ (pe_glob (v := V.ref c_NoHalf) (by rfl) hm_NoHalf rfl) (@pa_cons _ _ _ _ _ (pe_glob (v := V.ref c_NoLeading) (by rfl) hm_NoLeading rfl) (@pa_cons _ _ _ _ _ (pe_glob (v := V.ref c_NoRow) (by rfl) hm_NoRow rfl) (@pa_cons _ _ _ _ _ (pe_glob (v := V.ref c_Unknown) (by rfl) hm_Unknown rfl) pa_nil (by rfl)) (by rfl)) (by rfl)) (by rfl))) pa_nil (by rfl)) (by rfl))) (by rfl) (by first | exact Or.inl rfl | exact Or.inr rfl))
        (@pss_one _ _ _ (@ps_ret _ _ _ _ (@pe_tup _ _ _ _ _ (@pa_cons _ _ _ _ _ (pe_and (pe_callB (call_isX hcl) (by rfl) T.b_isinstance PyProof.Rows.boot_isinstance (@pa_cons _ _ _ _ _ (pv 3) (@pa_cons _ _ _ _ _ (pe_glob (v := V.ref c_NoText) (by rfl) hm_NoText rfl) pa_nil (by rfl)) (by rfl))) (pe_and (pe_callB (call_isX hcl) (by rfl) T.b_isinstance PyProof.Rows.boot_isinstance (@pa_cons _ _ _ _ _ (pv 3) (@pa_cons _ _ _ _ _ (pe_bltn (v := V.ty "ValueError") (by rfl) T.b_ValueError PyProof.Rows.Boot.«ValueError» rfl) pa_nil (by rfl)) (by rfl))) (pe_one (pe_not (pv 4))))) (@pa_cons _ _ _ _ _ pe_bl pa_nil (by rfl)) (by rfl))))))))
      (@pss_cons _ _ _ _ _ (@ps_if _ _ _ _ _ _ _ _ (PW.pt (pw_or (pt_not (pt_val (pe_callB call_isT (by rfl) T.b_isinstance PyProof.Rows.boot_isinstance (@pa_cons _ _ _ _ _ (pv 2) (@pa_cons _ _ _ _ _ (pe_bltn (v := V.ty "tuple") (by rfl) T.b_tuple PyProof.Rows.boot_tuple rfl) pa_nil (by rfl)) (by rfl))))) (pw_or (@pt_cmpR _ _ _ _ _ _ _ _ op_ne (@pe_callH _ _ _ _ _ _ _ _ _ _ C_l_saying_row (hr.mono (by decide)) rfl (@pa_cons _ _ _ _ _ (pv 2) pa_nil (by rfl)) (by decide) (by rfl) (by rfl)) (pv 1) (nomark _)) (pw_or1 (pt_not (pt_val (@pe_callH _ _ _ _ _ _ _ _ _ _ C_l_good (hr.mono (by decide)) rfl (@pa_cons _ _ _ _ _ (pv 0) (@pa_cons _ _ _ _ _ (pv 2) pa_nil (by rfl)) (by rfl)) (by decide) (by rfl) (by rfl))))))))
        (@pss_one _ _ _ (@ps_ret _ _ _ _ (@pe_tup _ _ _ _ _ (@pa_cons _ _ _ _ _ pe_bl (@pa_cons _ _ _ _ _ pe_bl pa_nil (by rfl)) (by rfl)))))
        pss_nil)
      (@pss_one _ _ _ (@ps_ret _ _ _ _ (@pe_tup _ _ _ _ _ (@pa_cons _ _ _ _ _ (pe_and (@pe_cmpR _ _ _ _ _ _ _ _ op_le (@pe_callH _ _ _ _ _ _ _ _ _ _ C_l_deep (hr.mono (by decide)) rfl (@pa_cons _ _ _ _ _ (pv 2) pa_nil (by rfl)) (by decide) (by rfl) (by rfl)) pe_int (nomark _)) (pe_one (@pe_cmpR _ _ _ _ _ _ _ _ op_le (@pe_callH _ _ _ _ _ _ _ _ _ _ C_l_many (hr.mono (by decide)) rfl (@pa_cons _ _ _ _ _ (pv 2) pa_nil (by rfl)) (by decide) (by rfl) (by rfl)) pe_int (nomark _)))) (@pa_cons _ _ _ _ _ pe_bl pa_nil (by rfl)) (by rfl))))))), ?_⟩
    refine ⟨_, rfl, _, rfl, n, t, rfl, n3, n24, sg, lt, fun s hs v H1 s1 rs => ?_, fun no H1 s1 C hC => ?_⟩
    · obtain ⟨e1, gs, d8, n60⟩ := rd_snd n24 hs
      obtain ⟨pv, x, xs, ev, hv, _⟩ := say_head rs
      subst ev
      have nn : nod (dw 8 + 1) s ≤ 3280 := by omega
      refine ⟨_, rfl, pv, _, rfl, SqT.of hv, true, rfl, ifn rfl ?_⟩
      refine ⟨_, rfl, dw 8 + 1, .ref pv, s, n, 0, rfl, by decide, n24, rs, gs, nn, fun H2 s2 => ?_⟩
      rw [e1]
      refine ⟨_, rfl, rfl, _, rfl, ifn (by rw [decide_eq_true (rfl : V.str t = V.str t)]; rfl) ?_⟩
      have rs2 := SayR.mono s2.tk _ _ _ rs
      refine ⟨_, rfl, _, rfl, dw 8 + 1, .ref pv, s, n, rfl, by decide, n24, rs2, gs, by omega, fun H3 s3 => ⟨true, rfl, ifn rfl ?_⟩⟩
      have rs3 := SayR.mono s3.tk _ _ _ rs2
      refine ⟨_, rfl, dw 8 + 1, .ref pv, s, rfl, by decide, rs3, by omega, fun H4 s4 => ?_⟩
      refine ⟨_, _, rfl, rfl, true, (by show V.bl (decide (((dep (dw 8 + 1) s : Nat) : Int) ≤ 8)) = V.bl true; rw [decide_eq_true (show ((dep (dw 8 + 1) s : Nat) : Int) ≤ 8 by omega)]), ifp rfl ?_⟩
      refine ⟨_, rfl, dw 8 + 1, .ref pv, s, rfl, by decide, SayR.mono s4.tk _ _ _ rs3, by omega, fun H5 s5 => ?_⟩
      refine ⟨_, _, rfl, rfl, two_fit, fun r r0 => q r _ (s1.trans (s2.trans (s3.trans (s4.trans (s5.trans (Same.new r0)))))) ?_⟩
      rw [hs, upd_same]
      show some (HO.tup [V.bl (decide (((nod (dw 8 + 1) s : Nat) : Int) ≤ 60)), V.bl true]) = _
      rw [decide_eq_true (show ((nod (dw 8 + 1) s : Nat) : Int) ≤ 60 by omega)]
      rfl
    · have eC : C = c_NoText := by
        rw [ns_NoText] at hC
        cases hC
        rfl
      subst eC
      refine ⟨xm_NoText, fun a ha => ?_⟩
      refine ⟨_, rfl, (by show 4 ≤ sizeLine; decide), fun r r0 => ⟨C, _, rfl, xo_NoText, rfl, .inr ⟨r, _, _, false, rfl, upd_same, rfl, k3_NoText, ?_⟩⟩⟩
      refine ⟨_, rfl, C, _, rfl, xo_NoText, rfl, .inl ⟨_, true, rfl, k1_NoText, true, rfl, ifp rfl ?_⟩⟩
      refine ⟨_, rfl, C, _, rfl, xo_NoText, rfl, .inl ⟨_, true, rfl, k2_NoText, true, rfl, ifp rfl ?_⟩⟩
      exact ⟨_, rfl, _, rfl, two_fit, fun r2 r20 => q r2 _ (s1.trans ((Same.new r0).trans (Same.new r20))) (by rw [no]; exact upd_same)⟩
set_option maxHeartbeats 8000000 in
theorem ok_l_bound {f : Addr} {fd : FuncData} (F : Fun K "_law_bound" "_law_bound" s_l_bound f fd) (T : Txt K mg)  : FnOk P w K mg base CX0 1 f fd ["_law_n", "_law_number"] (sp_l_bound w K) := by
  refine F.ok sc_l_bound (fun vs H Q E h => ?_) (fun cdv A outer s H vs Q E hr h => ?_)
  · obtain ⟨n, c, rfl, n3, n24, q⟩ := h
    rfl
  · obtain ⟨n, c, rfl, n3, n24, q⟩ := h
    refine ⟨_, (@pss_cons _ _ _ _ _ (@ps_set _ _ 2 _ _ _ _ sc_l_bound.nd rfl (Or.inl rfl) (@pe_op _ _ _ _ _ _ _ _ op_add_str pe_str (@pe_op _ _ _ _ _ _ _ _ op_repB pe_str pe_int)) (by rfl) (by first | exact Or.inl rfl | exact Or.inr rfl))
      (@pss_cons _ _ _ _ _ (@ps_set _ _ 3 _ _ _ _ sc_l_bound.nd rfl (Or.inl rfl) (pe_lstG (@pa_cons _ _ _ _ _ (pe_tupG (@pa_cons _ _ _ _ _ pe_str (@pa_cons _ _ _ _ _ pe_bl pa_nil (by rfl)) (by rfl))) (@pa_cons _ _ _ _ _ (pe_tupG (@pa_cons _ _ _ _ _ pe_str (@pa_cons _ _ _ _ _ pe_bl pa_nil (by rfl)) (by rfl))) (@pa_cons _ _ _ _ _ (pe_tupG (@pa_cons _ _ _ _ _ (@pe_op _ _ _ _ _ _ _ _ op_add_str pe_str (pe_callTy call_strI (by rfl) T.b_str PyProof.Rows.boot_str (@pa_cons _ _ _ _ _ (pv 0) pa_nil (by rfl)))) (@pa_cons _ _ _ _ _ pe_bl pa_nil (by rfl)) (by rfl))) (@pa_cons _ _ _ _ _ (pe_tupG (@pa_cons _ _ _ _ _ (@pe_op _ _ _ _ _ _ _ _ op_add_str pe_str (pe_callTy call_strI (by rfl) T.b_str PyProof.Rows.boot_str (@pa_cons _ _ _ _ _ (@pe_op _ _ _ _ _ _ _ _ op_sub (pv 0) pe_int) pa_nil (by rfl)))) (@pa_cons _ _ _ _ _ pe_bl pa_nil (by rfl)) (by rfl))) (@pa_cons _ _ _ _ _ (pe_tupG (@pa_cons _ _ _ _ _ pe_str (@pa_cons _ _ _ _ _ pe_bl pa_nil (by rfl)) (by rfl))) (@pa_cons _ _ _ _ _ (pe_tupG (@pa_cons _ _ _ _ _ pe_str (@pa_cons _ _ _ _ _ pe_bl pa_nil (by rfl)) (by rfl))) pa_nil (by rfl)) (by rfl)) (by rfl)) (by rfl)) (by rfl)) (by rfl))) (by rfl) (by first | exact Or.inl rfl | exact Or.inr rfl))
      (@pss_cons _ _ _ _ _ (@ps_set _ _ 3 _ _ _ _ sc_l_bound.nd rfl (Or.inl rfl) (@pe_op _ _ _ _ _ _ _ _ op_catG (pv 3) (pe_lstG (@pa_cons _ _ _ _ _ (pe_tupG (@pa_cons _ _ _ _ _ pe_str (@pa_cons _ _ _ _ _ pe_bl pa_nil (by rfl)) (by rfl))) (@pa_cons _ _ _ _ _ (pe_tupG (@pa_cons _ _ _ _ _ pe_str (@pa_cons _ _ _ _ _ pe_bl pa_nil (by rfl)) (by rfl))) (@pa_cons _ _ _ _ _ (pe_tupG (@pa_cons _ _ _ _ _ pe_str (@pa_cons _ _ _ _ _ pe_bl pa_nil (by rfl)) (by rfl))) (@pa_cons _ _ _ _ _ (pe_tupG (@pa_cons _ _ _ _ _ pe_str (@pa_cons _ _ _ _ _ pe_bl pa_nil (by rfl)) (by rfl))) (@pa_cons _ _ _ _ _ (pe_tupG (@pa_cons _ _ _ _ _ pe_str (@pa_cons _ _ _ _ _ pe_bl pa_nil (by rfl)) (by rfl))) pa_nil (by rfl)) (by rfl)) (by rfl)) (by rfl)) (by rfl)))) (by rfl) (by first | exact Or.inl rfl | exact Or.inr rfl))
      (@pss_cons _ _ _ _ _ (@ps_set _ _ 3 _ _ _ _ sc_l_bound.nd rfl (Or.inl rfl) (@pe_op _ _ _ _ _ _ _ _ op_catG (pv 3) (pe_lstG (@pa_cons _ _ _ _ _ (pe_tupG (@pa_cons _ _ _ _ _ (@pe_op _ _ _ _ _ _ _ _ op_add_str pe_str (pv 2)) (@pa_cons _ _ _ _ _ pe_bl pa_nil (by rfl)) (by rfl))) (@pa_cons _ _ _ _ _ (pe_tupG (@pa_cons _ _ _ _ _ (@pe_op _ _ _ _ _ _ _ _ op_add_str (@pe_op _ _ _ _ _ _ _ _ op_add_str pe_str (pe_slice sl_str (pv 2) po_none (po_some (pe_un un_neg pe_int)))) pe_str) (@pa_cons _ _ _ _ _ pe_bl pa_nil (by rfl)) (by rfl))) (@pa_cons _ _ _ _ _ (pe_tupG (@pa_cons _ _ _ _ _ pe_str (@pa_cons _ _ _ _ _ pe_bl pa_nil (by rfl)) (by rfl))) (@pa_cons _ _ _ _ _ (pe_tupG (@pa_cons _ _ _ _ _ pe_str (@pa_cons _ _ _ _ _ pe_bl pa_nil (by rfl)) (by rfl))) pa_nil (by rfl)) (by rfl)) (by rfl)) (by rfl)))) (by rfl) (by first | exact Or.inl rfl | exact Or.inr rfl))
      (@pss_cons _ _ _ _ _ (@ps_set _ _ 3 _ _ _ _ sc_l_bound.nd rfl (Or.inl rfl) (@pe_op _ _ _ _ _ _ _ _ op_catG (pv 3) (pe_lstG (@pa_cons _ _ _ _ _ (pe_tupG (@pa_cons _ _ _ _ _ pe_str (@pa_cons _ _ _ _ _ pe_bl pa_nil (by rfl)) (by rfl))) (@pa_cons _ _ _ _ _ (pe_tupG (@pa_cons _ _ _ _ _ pe_str (@pa_cons _ _ _ _ _ pe_bl pa_nil (by rfl)) (by rfl))) (@pa_cons _ _ _ _ _ (pe_tupG (@pa_cons _ _ _ _ _ pe_str (@pa_cons _ _ _ _ _ pe_bl pa_nil (by rfl)) (by rfl))) (@pa_cons _ _ _ _ _ (pe_tupG (@pa_cons _ _ _ _ _ pe_str (@pa_cons _ _ _ _ _ pe_bl pa_nil (by rfl)) (by rfl))) (@pa_cons _ _ _ _ _ (pe_tupG (@pa_cons _ _ _ _ _ pe_str (@pa_cons _ _ _ _ _ pe_bl pa_nil (by rfl)) (by rfl))) pa_nil (by rfl)) (by rfl)) (by rfl)) (by rfl)) (by rfl)))) (by rfl) (by first | exact Or.inl rfl | exact Or.inr rfl))
      (@pss_cons _ _ _ _ _ (@ps_set _ _ 3 _ _ _ _ sc_l_bound.nd rfl (Or.inl rfl) (@pe_op _ _ _ _ _ _ _ _ op_catG (pv 3) (pe_lstG (@pa_cons _ _ _ _ _ (pe_tupG (@pa_cons _ _ _ _ _ (@pe_op _ _ _ _ _ _ _ _ op_add_str (@pe_op _ _ _ _ _ _ _ _ op_repB pe_str pe_int) pe_str) (@pa_cons _ _ _ _ _ pe_bl pa_nil (by rfl)) (by rfl))) (@pa_cons _ _ _ _ _ (pe_tupG (@pa_cons _ _ _ _ _ (@pe_op _ _ _ _ _ _ _ _ op_add_str (@pe_op _ _ _ _ _ _ _ _ op_repB pe_str pe_int) pe_str) (@pa_cons _ _ _ _ _ pe_bl pa_nil (by rfl)) (by rfl))) (@pa_cons _ _ _ _ _ (pe_tupG (@pa_cons _ _ _ _ _ (@pe_op _ _ _ _ _ _ _ _ op_add_str (@pe_op _ _ _ _ _ _ _ _ op_repB pe_str pe_int) pe_str) (@pa_cons _ _ _ _ _ pe_bl pa_nil (by rfl)) (by rfl))) (@pa_cons _ _ _ _ _ (pe_tupG (@pa_cons _ _ _ _ _ (@pe_op _ _ _ _ _ _ _ _ op_repB pe_str pe_int) (@pa_cons _ _ _ _ _ pe_bl pa_nil (by rfl)) (by rfl))) pa_nil (by rfl)) (by rfl)) (by rfl)) (by rfl)))) (by rfl) (by first | exact Or.inl rfl | exact Or.inr rfl))
      (@pss_cons _ _ _ _ _ (@ps_set _ _ 3 _ _ _ _ sc_l_bound.nd rfl (Or.inl rfl) (@pe_op _ _ _ _ _ _ _ _ op_catG (pv 3) (pe_lstG (@pa_cons _ _ _ _ _ (pe_tupG (@pa_cons _ _ _ _ _ (@pe_op _ _ _ _ _ _ _ _ op_add_str (@pe_op _ _ _ _ _ _ _ _ op_add_str pe_str (@pe_op _ _ _ _ _ _ _ _ op_repB pe_str pe_int)) pe_str) (@pa_cons _ _ _ _ _ pe_bl pa_nil (by rfl)) (by rfl))) (@pa_cons _ _ _ _ _ (pe_tupG (@pa_cons _ _ _ _ _ (@pe_op _ _ _ _ _ _ _ _ op_add_str (@pe_op _ _ _ _ _ _ _ _ op_add_str pe_str (@pe_op _ _ _ _ _ _ _ _ op_repB pe_str pe_int)) pe_str) (@pa_cons _ _ _ _ _ pe_bl pa_nil (by rfl)) (by rfl))) (@pa_cons _ _ _ _ _ (pe_tupG (@pa_cons _ _ _ _ _ (@pe_op _ _ _ _ _ _ _ _ op_add_str (@pe_op _ _ _ _ _ _ _ _ op_repB pe_str pe_int) pe_str) (@pa_cons _ _ _ _ _ pe_bl pa_nil (by rfl)) (by rfl))) pa_nil (by rfl)) (by rfl)) (by rfl)))) (by rfl) (by first | exact Or.inl rfl | exact Or.inr rfl))
      (@pss_cons _ _ _ _ _ (@ps_set _ _ 3 _ _ _ _ sc_l_bound.nd rfl (Or.inl rfl) (@pe_op _ _ _ _ _ _ _ _ op_catG (pv 3) (pe_lstG (@pa_cons _ _ _ _ _ (pe_tupG (@pa_cons _ _ _ _ _ (@pe_op _ _ _ _ _ _ _ _ op_add_str (@pe_op _ _ _ _ _ _ _ _ op_repB pe_str pe_int) pe_str) (@pa_cons _ _ _ _ _ pe_bl pa_nil (by rfl)) (by rfl))) (@pa_cons _ _ _ _ _ (pe_tupG (@pa_cons _ _ _ _ _ pe_str (@pa_cons _ _ _ _ _ pe_bl pa_nil (by rfl)) (by rfl))) (@pa_cons _ _ _ _ _ (pe_tupG (@pa_cons _ _ _ _ _ pe_str (@pa_cons _ _ _ _ _ pe_bl pa_nil (by rfl)) (by rfl))) pa_nil (by rfl)) (by rfl)) (by rfl)))) (by rfl) (by first | exact Or.inl rfl | exact Or.inr rfl))
      (@pss_one _ _ _ (@ps_ret _ _ _ _ (@pe_ix _ _ _ _ _ _ _ ix_list (pv 3) (@pe_op _ _ _ _ _ _ _ _ op_mod (pv 1) pe_int) (fun _ _ => rfl)))))))))))), ?_⟩
    have i1 : (iS n).length ≤ 2 := iS_len (by omega) (by decide) (by omega)
    have i2 : (iS (n - 1)).length ≤ 2 := iS_len (by omega) (by decide) (by omega)
    have o1 : (Str.ofString "t").length = 1 := by decide +kernel
    have o2 : (Str.ofString "m").length = 1 := by decide +kernel
    refine ⟨_, _, rfl, rfl, by decide, by decide, by decide +kernel, by decide +kernel, by decide +kernel, by decide +kernel, _, _, rfl, rfl, fit_big (by decide +kernel), ?_⟩
    obtain ⟨G0, eG⟩ : ∃ G0, G0 = H := ⟨_, rfl⟩
    rw [← eG]
    have S0 : Same H G0 := by rw [eG]; exact Same.refl _
    refine ⟨two_fit, fun r0 G1 t0 b0 => ?_⟩
    have S1 := S0.trans t0
    refine ⟨two_fit, fun r1 G2 t1 b1 => ?_⟩
    have b0 := t1 _ _ b0
    have S2 := S1.trans t1
    refine ⟨_, rfl, n, rfl, ⟨by omega, by omega⟩, _, _, rfl, rfl, fit_big (by first | omega), two_fit, fun r2 G3 t2 b2 => ?_⟩
    have b0 := t2 _ _ b0
    have b1 := t2 _ _ b1
    have S3 := S2.trans t2
    refine ⟨_, rfl, _, _, rfl, rfl, n - 1, rfl, ⟨by omega, by omega⟩, _, _, rfl, rfl, fit_big (by first | omega), two_fit, fun r3 G4 t3 b3 => ?_⟩
    have b0 := t3 _ _ b0
    have b1 := t3 _ _ b1
    have b2 := t3 _ _ b2
    have S4 := S3.trans t3
    refine ⟨two_fit, fun r4 G5 t4 b4 => ?_⟩
    have b0 := t4 _ _ b0
    have b1 := t4 _ _ b1
    have b2 := t4 _ _ b2
    have b3 := t4 _ _ b3
    have S5 := S4.trans t4
    refine ⟨two_fit, fun r5 G6 t5 b5 => ?_⟩
    have b0 := t5 _ _ b0
    have b1 := t5 _ _ b1
    have b2 := t5 _ _ b2
    have b3 := t5 _ _ b3
    have b4 := t5 _ _ b4
    have S6 := S5.trans t5
    refine ⟨(by show 6 ≤ sizeLine; decide), fun L0 G7 t6 _ h0 => ?_⟩
    have b0 := t6 _ _ b0
    have b1 := t6 _ _ b1
    have b2 := t6 _ _ b2
    have b3 := t6 _ _ b3
    have b4 := t6 _ _ b4
    have b5 := t6 _ _ b5
    have S7 := S6.trans t6
    have pr := (show Paired (BR G7) [V.ref r0, V.ref r1, V.ref r2, V.ref r3, V.ref r4, V.ref r5] (bnd1 n) from .cons ⟨r0, rfl, b0⟩ (.cons ⟨r1, rfl, b1⟩ (.cons ⟨r2, rfl, b2⟩ (.cons ⟨r3, rfl, b3⟩ (.cons ⟨r4, rfl, b4⟩ (.cons ⟨r5, rfl, b5⟩ (.nil)))))))
    have hM := h0
    obtain ⟨us0, eus⟩ : ∃ us : List V, us = [V.ref r0, V.ref r1, V.ref r2, V.ref r3, V.ref r4, V.ref r5] := ⟨_, rfl⟩
    rw [← eus] at pr hM
    have lu : us0.length = 6 := by rw [eus]; rfl
    obtain ⟨M0, eM⟩ : ∃ M, M = L0 := ⟨_, rfl⟩
    rw [← eM] at hM ⊢
    clear eus eM h0
    refine ⟨_, rfl, two_fit, fun r7 G8 t7 b7 => ?_⟩
    have S8 := S7.trans t7
    have hM := t7 _ _ hM
    have pr := prd_imp (fun x y r => BR.mono t7.tk r) pr
    refine ⟨two_fit, fun r8 G9 t8 b8 => ?_⟩
    have b7 := t8 _ _ b7
    have S9 := S8.trans t8
    have hM := t8 _ _ hM
    have pr := prd_imp (fun x y r => BR.mono t8.tk r) pr
    refine ⟨two_fit, fun r9 G10 t9 b9 => ?_⟩
    have b7 := t9 _ _ b7
    have b8 := t9 _ _ b8
    have S10 := S9.trans t9
    have hM := t9 _ _ hM
    have pr := prd_imp (fun x y r => BR.mono t9.tk r) pr
    refine ⟨two_fit, fun r10 G11 t10 b10 => ?_⟩
    have b7 := t10 _ _ b7
    have b8 := t10 _ _ b8
    have b9 := t10 _ _ b9
    have S11 := S10.trans t10
    have hM := t10 _ _ hM
    have pr := prd_imp (fun x y r => BR.mono t10.tk r) pr
    refine ⟨two_fit, fun r11 G12 t11 b11 => ?_⟩
    have b7 := t11 _ _ b7
    have b8 := t11 _ _ b8
    have b9 := t11 _ _ b9
    have b10 := t11 _ _ b10
    have S12 := S11.trans t11
    have hM := t11 _ _ hM
    have pr := prd_imp (fun x y r => BR.mono t11.tk r) pr
    refine ⟨(by show 5 ≤ sizeLine; decide), fun L1 G13 t12 _ h1 => ?_⟩
    have b7 := t12 _ _ b7
    have b8 := t12 _ _ b8
    have b9 := t12 _ _ b9
    have b10 := t12 _ _ b10
    have b11 := t12 _ _ b11
    have S13 := S12.trans t12
    have hM := t12 _ _ hM
    have pr := prd_imp (fun x y r => BR.mono t12.tk r) pr
    have pr := prd_append pr (show Paired (BR G13) [V.ref r7, V.ref r8, V.ref r9, V.ref r10, V.ref r11] (bnd2) from .cons ⟨r7, rfl, b7⟩ (.cons ⟨r8, rfl, b8⟩ (.cons ⟨r9, rfl, b9⟩ (.cons ⟨r10, rfl, b10⟩ (.cons ⟨r11, rfl, b11⟩ (.nil))))))
    refine ⟨M0, L1, _, _, rfl, rfl, hM, h1, fit_big (by rw [lu]; show 6 + 5 ≤ 1000000; decide), fun M1 G14 t13 _ hM => ?_⟩
    have S14 := S13.trans t13
    have pr := prd_imp (fun x y r => BR.mono t13.tk r) pr
    have lu : (us0 ++ [V.ref r7, V.ref r8, V.ref r9, V.ref r10, V.ref r11]).length = 11 := by rw [List.length_append, lu]; rfl
    obtain ⟨us1, eus⟩ : ∃ us' : List V, us' = us0 ++ [V.ref r7, V.ref r8, V.ref r9, V.ref r10, V.ref r11] := ⟨_, rfl⟩
    rw [← eus] at pr hM lu
    clear eus h1
    refine ⟨_, rfl, _, rfl, _, _, rfl, rfl, fit_big (by decide +kernel), two_fit, fun r14 G15 t14 b14 => ?_⟩
    have S15 := S14.trans t14
    have hM := t14 _ _ hM
    have pr := prd_imp (fun x y r => BR.mono t14.tk r) pr
    refine ⟨_, rfl, _, rfl, _, rfl, bmost, rfl, fit_big (by decide +kernel), _, _, rfl, rfl, fit_big (by decide +kernel), _, _, rfl, rfl, fit_big (by decide +kernel), two_fit, fun r15 G16 t15 b15 => ?_⟩
    have b14 := t15 _ _ b14
    have S16 := S15.trans t15
    have hM := t15 _ _ hM
    have pr := prd_imp (fun x y r => BR.mono t15.tk r) pr
    refine ⟨two_fit, fun r16 G17 t16 b16 => ?_⟩
    have b14 := t16 _ _ b14
    have b15 := t16 _ _ b15
    have S17 := S16.trans t16
    have hM := t16 _ _ hM
    have pr := prd_imp (fun x y r => BR.mono t16.tk r) pr
    refine ⟨two_fit, fun r17 G18 t17 b17 => ?_⟩
    have b14 := t17 _ _ b14
    have b15 := t17 _ _ b15
    have b16 := t17 _ _ b16
    have S18 := S17.trans t17
    have hM := t17 _ _ hM
    have pr := prd_imp (fun x y r => BR.mono t17.tk r) pr
    refine ⟨(by show 4 ≤ sizeLine; decide), fun L2 G19 t18 _ h2 => ?_⟩
    have b14 := t18 _ _ b14
    have b15 := t18 _ _ b15
    have b16 := t18 _ _ b16
    have b17 := t18 _ _ b17
    have S19 := S18.trans t18
    have hM := t18 _ _ hM
    have pr := prd_imp (fun x y r => BR.mono t18.tk r) pr
    have pr := prd_append pr (show Paired (BR G19) [V.ref r14, V.ref r15, V.ref r16, V.ref r17] (bnd3) from .cons ⟨r14, rfl, b14⟩ (.cons ⟨r15, rfl, b15⟩ (.cons ⟨r16, rfl, b16⟩ (.cons ⟨r17, rfl, b17⟩ (.nil)))))
    refine ⟨M1, L2, _, _, rfl, rfl, hM, h2, fit_big (by rw [lu]; show 11 + 4 ≤ 1000000; decide), fun M2 G20 t19 _ hM => ?_⟩
    have S20 := S19.trans t19
    have pr := prd_imp (fun x y r => BR.mono t19.tk r) pr
    have lu : (us1 ++ [V.ref r14, V.ref r15, V.ref r16, V.ref r17]).length = 15 := by rw [List.length_append, lu]; rfl
    obtain ⟨us2, eus⟩ : ∃ us' : List V, us' = us1 ++ [V.ref r14, V.ref r15, V.ref r16, V.ref r17] := ⟨_, rfl⟩
    rw [← eus] at pr hM lu
    clear eus h2
    refine ⟨_, rfl, two_fit, fun r20 G21 t20 b20 => ?_⟩
    have S21 := S20.trans t20
    have hM := t20 _ _ hM
    have pr := prd_imp (fun x y r => BR.mono t20.tk r) pr
    refine ⟨two_fit, fun r21 G22 t21 b21 => ?_⟩
    have b20 := t21 _ _ b20
    have S22 := S21.trans t21
    have hM := t21 _ _ hM
    have pr := prd_imp (fun x y r => BR.mono t21.tk r) pr
    refine ⟨two_fit, fun r22 G23 t22 b22 => ?_⟩
    have b20 := t22 _ _ b20
    have b21 := t22 _ _ b21
    have S23 := S22.trans t22
    have hM := t22 _ _ hM
    have pr := prd_imp (fun x y r => BR.mono t22.tk r) pr
    refine ⟨two_fit, fun r23 G24 t23 b23 => ?_⟩
    have b20 := t23 _ _ b20
    have b21 := t23 _ _ b21
    have b22 := t23 _ _ b22
    have S24 := S23.trans t23
    have hM := t23 _ _ hM
    have pr := prd_imp (fun x y r => BR.mono t23.tk r) pr
    refine ⟨two_fit, fun r24 G25 t24 b24 => ?_⟩
    have b20 := t24 _ _ b20
    have b21 := t24 _ _ b21
    have b22 := t24 _ _ b22
    have b23 := t24 _ _ b23
    have S25 := S24.trans t24
    have hM := t24 _ _ hM
    have pr := prd_imp (fun x y r => BR.mono t24.tk r) pr
    refine ⟨(by show 5 ≤ sizeLine; decide), fun L3 G26 t25 _ h3 => ?_⟩
    have b20 := t25 _ _ b20
    have b21 := t25 _ _ b21
    have b22 := t25 _ _ b22
    have b23 := t25 _ _ b23
    have b24 := t25 _ _ b24
    have S26 := S25.trans t25
    have hM := t25 _ _ hM
    have pr := prd_imp (fun x y r => BR.mono t25.tk r) pr
    have pr := prd_append pr (show Paired (BR G26) [V.ref r20, V.ref r21, V.ref r22, V.ref r23, V.ref r24] (bnd4) from .cons ⟨r20, rfl, b20⟩ (.cons ⟨r21, rfl, b21⟩ (.cons ⟨r22, rfl, b22⟩ (.cons ⟨r23, rfl, b23⟩ (.cons ⟨r24, rfl, b24⟩ (.nil))))))
    refine ⟨M2, L3, _, _, rfl, rfl, hM, h3, fit_big (by rw [lu]; show 15 + 5 ≤ 1000000; decide), fun M3 G27 t26 _ hM => ?_⟩
    have S27 := S26.trans t26
    have pr := prd_imp (fun x y r => BR.mono t26.tk r) pr
    have lu : (us2 ++ [V.ref r20, V.ref r21, V.ref r22, V.ref r23, V.ref r24]).length = 20 := by rw [List.length_append, lu]; rfl
    obtain ⟨us3, eus⟩ : ∃ us' : List V, us' = us2 ++ [V.ref r20, V.ref r21, V.ref r22, V.ref r23, V.ref r24] := ⟨_, rfl⟩
    rw [← eus] at pr hM lu
    clear eus h3
    refine ⟨_, rfl, _, _, rfl, rfl, by decide, by decide, by decide +kernel, by decide +kernel, by decide +kernel, by decide +kernel, _, _, rfl, rfl, fit_big (by decide +kernel), two_fit, fun r27 G28 t27 b27 => ?_⟩
    have S28 := S27.trans t27
    have hM := t27 _ _ hM
    have pr := prd_imp (fun x y r => BR.mono t27.tk r) pr
    refine ⟨_, _, rfl, rfl, by decide, by decide, by decide +kernel, by decide +kernel, by decide +kernel, by decide +kernel, _, _, rfl, rfl, fit_big (by decide +kernel), two_fit, fun r28 G29 t28 b28 => ?_⟩
    have b27 := t28 _ _ b27
    have S29 := S28.trans t28
    have hM := t28 _ _ hM
    have pr := prd_imp (fun x y r => BR.mono t28.tk r) pr
    refine ⟨_, _, rfl, rfl, by decide, by decide, by decide +kernel, by decide +kernel, by decide +kernel, by decide +kernel, _, _, rfl, rfl, fit_big (by rw [rp_len]; decide +kernel), two_fit, fun r29 G30 t29 b29 => ?_⟩
    have b27 := t29 _ _ b27
    have b28 := t29 _ _ b28
    have S30 := S29.trans t29
    have hM := t29 _ _ hM
    have pr := prd_imp (fun x y r => BR.mono t29.tk r) pr
    refine ⟨_, _, rfl, rfl, by decide, by decide, by decide +kernel, by decide +kernel, by decide +kernel, by decide +kernel, two_fit, fun r30 G31 t30 b30 => ?_⟩
    have b27 := t30 _ _ b27
    have b28 := t30 _ _ b28
    have b29 := t30 _ _ b29
    have S31 := S30.trans t30
    have hM := t30 _ _ hM
    have pr := prd_imp (fun x y r => BR.mono t30.tk r) pr
    refine ⟨(by show 4 ≤ sizeLine; decide), fun L4 G32 t31 _ h4 => ?_⟩
    have b27 := t31 _ _ b27
    have b28 := t31 _ _ b28
    have b29 := t31 _ _ b29
    have b30 := t31 _ _ b30
    have S32 := S31.trans t31
    have hM := t31 _ _ hM
    have pr := prd_imp (fun x y r => BR.mono t31.tk r) pr
    have pr := prd_append pr (show Paired (BR G32) [V.ref r27, V.ref r28, V.ref r29, V.ref r30] (bnd5) from .cons ⟨r27, rfl, b27⟩ (.cons ⟨r28, rfl, b28⟩ (.cons ⟨r29, rfl, b29⟩ (.cons ⟨r30, rfl, b30⟩ (.nil)))))
    refine ⟨M3, L4, _, _, rfl, rfl, hM, h4, fit_big (by rw [lu]; show 20 + 4 ≤ 1000000; decide), fun M4 G33 t32 _ hM => ?_⟩
    have S33 := S32.trans t32
    have pr := prd_imp (fun x y r => BR.mono t32.tk r) pr
    have lu : (us3 ++ [V.ref r27, V.ref r28, V.ref r29, V.ref r30]).length = 24 := by rw [List.length_append, lu]; rfl
    obtain ⟨us4, eus⟩ : ∃ us' : List V, us' = us3 ++ [V.ref r27, V.ref r28, V.ref r29, V.ref r30] := ⟨_, rfl⟩
    rw [← eus] at pr hM lu
    clear eus h4
    refine ⟨_, rfl, _, _, rfl, rfl, by decide, by decide, by decide +kernel, by decide +kernel, by decide +kernel, by decide +kernel, _, _, rfl, rfl, fit_big (by decide +kernel), _, _, rfl, rfl, fit_big (by decide +kernel), two_fit, fun r33 G34 t33 b33 => ?_⟩
    have S34 := S33.trans t33
    have hM := t33 _ _ hM
    have pr := prd_imp (fun x y r => BR.mono t33.tk r) pr
    refine ⟨_, _, rfl, rfl, by decide, by decide, by decide +kernel, by decide +kernel, by decide +kernel, by decide +kernel, _, _, rfl, rfl, fit_big (by decide +kernel), _, _, rfl, rfl, fit_big (by decide +kernel), two_fit, fun r34 G35 t34 b34 => ?_⟩
    have b33 := t34 _ _ b33
    have S35 := S34.trans t34
    have hM := t34 _ _ hM
    have pr := prd_imp (fun x y r => BR.mono t34.tk r) pr
    refine ⟨_, _, rfl, rfl, by decide, by decide, by decide +kernel, by decide +kernel, by decide +kernel, by decide +kernel, _, _, rfl, rfl, fit_big (by decide +kernel), two_fit, fun r35 G36 t35 b35 => ?_⟩
    have b33 := t35 _ _ b33
    have b34 := t35 _ _ b34
    have S36 := S35.trans t35
    have hM := t35 _ _ hM
    have pr := prd_imp (fun x y r => BR.mono t35.tk r) pr
    refine ⟨(by show 3 ≤ sizeLine; decide), fun L5 G37 t36 _ h5 => ?_⟩
    have b33 := t36 _ _ b33
    have b34 := t36 _ _ b34
    have b35 := t36 _ _ b35
    have S37 := S36.trans t36
    have hM := t36 _ _ hM
    have pr := prd_imp (fun x y r => BR.mono t36.tk r) pr
    have pr := prd_append pr (show Paired (BR G37) [V.ref r33, V.ref r34, V.ref r35] (bnd6) from .cons ⟨r33, rfl, b33⟩ (.cons ⟨r34, rfl, b34⟩ (.cons ⟨r35, rfl, b35⟩ (.nil))))
    refine ⟨M4, L5, _, _, rfl, rfl, hM, h5, fit_big (by rw [lu]; show 24 + 3 ≤ 1000000; decide), fun M5 G38 t37 _ hM => ?_⟩
    have S38 := S37.trans t37
    have pr := prd_imp (fun x y r => BR.mono t37.tk r) pr
    have lu : (us4 ++ [V.ref r33, V.ref r34, V.ref r35]).length = 27 := by rw [List.length_append, lu]; rfl
    obtain ⟨us5, eus⟩ : ∃ us' : List V, us' = us4 ++ [V.ref r33, V.ref r34, V.ref r35] := ⟨_, rfl⟩
    rw [← eus] at pr hM lu
    clear eus h5
    refine ⟨_, rfl, _, _, rfl, rfl, by decide, by decide, by decide +kernel, by decide +kernel, by decide +kernel, by decide +kernel, _, _, rfl, rfl, fit_big (by decide +kernel), two_fit, fun r38 G39 t38 b38 => ?_⟩
    have S39 := S38.trans t38
    have hM := t38 _ _ hM
    have pr := prd_imp (fun x y r => BR.mono t38.tk r) pr
    refine ⟨two_fit, fun r39 G40 t39 b39 => ?_⟩
    have b38 := t39 _ _ b38
    have S40 := S39.trans t39
    have hM := t39 _ _ hM
    have pr := prd_imp (fun x y r => BR.mono t39.tk r) pr
    refine ⟨two_fit, fun r40 G41 t40 b40 => ?_⟩
    have b38 := t40 _ _ b38
    have b39 := t40 _ _ b39
    have S41 := S40.trans t40
    have hM := t40 _ _ hM
    have pr := prd_imp (fun x y r => BR.mono t40.tk r) pr
    refine ⟨(by show 3 ≤ sizeLine; decide), fun L6 G42 t41 _ h6 => ?_⟩
    have b38 := t41 _ _ b38
    have b39 := t41 _ _ b39
    have b40 := t41 _ _ b40
    have S42 := S41.trans t41
    have hM := t41 _ _ hM
    have pr := prd_imp (fun x y r => BR.mono t41.tk r) pr
    have pr := prd_append pr (show Paired (BR G42) [V.ref r38, V.ref r39, V.ref r40] (bnd7) from .cons ⟨r38, rfl, b38⟩ (.cons ⟨r39, rfl, b39⟩ (.cons ⟨r40, rfl, b40⟩ (.nil))))
    refine ⟨M5, L6, _, _, rfl, rfl, hM, h6, fit_big (by rw [lu]; show 27 + 3 ≤ 1000000; decide), fun M6 G43 t42 _ hM => ?_⟩
    have S43 := S42.trans t42
    have pr := prd_imp (fun x y r => BR.mono t42.tk r) pr
    have lu : (us5 ++ [V.ref r38, V.ref r39, V.ref r40]).length = 30 := by rw [List.length_append, lu]; rfl
    obtain ⟨us6, eus⟩ : ∃ us' : List V, us' = us5 ++ [V.ref r38, V.ref r39, V.ref r40] := ⟨_, rfl⟩
    rw [← eus] at pr hM lu
    clear eus h6
    have c0 := mod_lo c (n := 30) (by decide)
    have c1 := mod_hi c (n := 30) (by decide)
    have pr : Paired (BR G43) us6 (bnd n) := pr
    have lb : (bnd n).length = 30 := by rw [← prd_len pr]; exact lu
    obtain ⟨x, hx⟩ : ∃ x, (bnd n)[(c % 30).toNat]? = some x := ⟨_, List.getElem?_eq_getElem (by omega)⟩
    obtain ⟨v, hv, r, ev, hr9⟩ := prd_get pr hx
    subst ev
    refine ⟨_, rfl, _, rfl, _, _, rfl, rfl, (by show (0 : Int) < 30; decide), M6, _, _, .ref r, rfl, rfl, SqL.of hM, ?_, q r x G43 S43 hr9 (List.mem_of_getElem? hx)⟩
    show atI us6 (c % 30) = some (.ref r)
    rw [show c % 30 = (((c % 30).toNat : Nat) : Int) by omega]
    exact atI_nat hv
set_option maxHeartbeats 8000000 in
theorem ok_law {f : Addr} {fd : FuncData} (F : Fun K "law" "law" s_law f fd) (T : Txt K mg) (C_l_bent : Has P w K mg base 2 "_law_bent" ["_law_text", "_law_number"] (sp_l_bent w K)) (C_l_bound : Has P w K mg base 1 "_law_bound" ["_law_n", "_law_number"] (sp_l_bound w K)) (C_l_mixed : Has P w K mg base 2 "_law_mixed" ["_law_script", "_law_k", "_law_salt"] (sp_l_mixed w K)) (C_l_read : Has P w K mg base 62 "_law_read" ["_law_n", "_law_text"] (sp_l_read w K)) (C_l_saying : Has P w K mg base (8 * 2 + 5) "_law_saying" ["_law_script", "_law_bag", "_law_n", "_law_deep_here"] (sp_l_saying (8) w K)) (C_l_saying_row : Has P w K mg base (20 * 1 + 2) "_law_saying_row" ["_law_saying_here"] (sp_l_saying_row (20) w K)) (C_l_wheel : Has P w K mg base 3 "_law_wheel" ["_law_script", "_law_most"] (sp_l_wheel w K)) : FnOk P w K mg base CX0 70 f fd ["_law_script"] (sp_law w K) := by
  refine F.ok sc_law (fun vs H Q E h => ?_) (fun cdv A outer s H vs Q E hr h => ?_)
  · obtain ⟨a, ns, rfl, hS, hl, q⟩ := h
    rfl
  · obtain ⟨a, ns, rfl, hS, hl, q⟩ := h
    refine ⟨_, (@pss_cons _ _ _ _ _ (@ps_set _ _ 1 _ _ _ _ sc_law.nd rfl (Or.inl rfl) (@pe_callH _ _ _ _ _ _ _ _ _ _ C_l_wheel (hr.mono (by decide)) rfl (@pa_cons _ _ _ _ _ (pv 0) (@pa_cons _ _ _ _ _ pe_int pa_nil (by rfl)) (by rfl)) (by decide) (by rfl) (by rfl)) (by rfl) (by first | exact Or.inl rfl | exact Or.inr rfl))
      (@pss_cons _ _ _ _ _ (@ps_set _ _ 2 _ _ _ _ sc_law.nd rfl (Or.inl rfl) (@pe_op _ _ _ _ _ _ _ _ op_add pe_int (@pe_op _ _ _ _ _ _ _ _ op_mod (@pe_op _ _ _ _ _ _ _ _ op_add (pv 1) (@pe_op _ _ _ _ _ _ _ _ op_mod (@pe_callH _ _ _ _ _ _ _ _ _ _ C_l_mixed (hr.mono (by decide)) rfl (@pa_cons _ _ _ _ _ (pv 0) (@pa_cons _ _ _ _ _ pe_int (@pa_cons _ _ _ _ _ pe_int pa_nil (by rfl)) (by rfl)) (by rfl)) (by decide) (by rfl) (by rfl)) pe_int)) pe_int)) (by rfl) (by first | exact Or.inl rfl | exact Or.inr rfl))
      (@pss_cons _ _ _ _ _ (ps_for PassesOwn.never rfl (pi_range1 rfl T.b_range (@pa_cons _ _ _ _ _ pe_int pa_nil (by rfl))) (pg_name (i := 3) sc_law.nd rfl (Or.inl rfl))
        (@pss_cons _ _ _ _ _ (@ps_set _ _ 4 _ _ _ _ sc_law.nd rfl (Or.inl rfl) (@pe_callH _ _ _ _ _ _ _ _ _ _ C_l_saying (hr.mono (by decide)) rfl (@pa_cons _ _ _ _ _ (pv 0) (@pa_cons _ _ _ _ _ (@pe_lst _ _ _ _ (@pa_cons _ _ _ _ _ (@pe_op _ _ _ _ _ _ _ _ op_add pe_int (@pe_op _ _ _ _ _ _ _ _ op_mul pe_int (pv 3))) (@pa_cons _ _ _ _ _ (@pe_op _ _ _ _ _ _ _ _ op_add pe_int (@pe_op _ _ _ _ _ _ _ _ op_mul pe_int (pv 3))) (@pa_cons _ _ _ _ _ pe_int pa_nil (by rfl)) (by rfl)) (by rfl))) (@pa_cons _ _ _ _ _ (pv 1) (@pa_cons _ _ _ _ _ pe_int pa_nil (by rfl)) (by rfl)) (by rfl)) (by rfl)) (by decide) (by rfl) (by rfl)) (by rfl) (by first | exact Or.inl rfl | exact Or.inr rfl))
        (@pss_cons _ _ _ _ _ (ps_for PassesOwn.never rfl (pi_range1 rfl T.b_range (@pa_cons _ _ _ _ _ pe_int pa_nil (by rfl))) (pg_name (i := 5) sc_law.nd rfl (Or.inl rfl))
          (@pss_cons _ _ _ _ _ (@ps_set _ _ 6 _ _ _ _ sc_law.nd rfl (Or.inl rfl) (@pe_callH _ _ _ _ _ _ _ _ _ _ C_l_bent (hr.mono (by decide)) rfl (@pa_cons _ _ _ _ _ (@pe_callH _ _ _ _ _ _ _ _ _ _ C_l_saying_row (hr.mono (by decide)) rfl (@pa_cons _ _ _ _ _ (pv 4) pa_nil (by rfl)) (by decide) (by rfl) (by rfl)) (@pa_cons _ _ _ _ _ (@pe_callH _ _ _ _ _ _ _ _ _ _ C_l_mixed (hr.mono (by decide)) rfl (@pa_cons _ _ _ _ _ (pv 0) (@pa_cons _ _ _ _ _ (@pe_op _ _ _ _ _ _ _ _ op_add (pv 3) pe_int) (@pa_cons _ _ _ _ _ (@pe_op _ _ _ _ _ _ _ _ op_add pe_int (pv 5)) pa_nil (by rfl)) (by rfl)) (by rfl)) (by decide) (by rfl) (by rfl)) pa_nil (by rfl)) (by rfl)) (by decide) (by rfl) (by rfl)) (by rfl) (by first | exact Or.inl rfl | exact Or.inr rfl))
          (@pss_cons _ _ _ _ _ (@ps_if _ _ _ _ _ _ _ _ (@pt_cmpR _ _ _ _ _ _ _ _ op_eq (pv 5) pe_int (nomark _))
            (@pss_one _ _ _ (@ps_set _ _ 6 _ _ _ _ sc_law.nd rfl (Or.inl rfl) (@pe_callH _ _ _ _ _ _ _ _ _ _ C_l_bent (hr.mono (by decide)) rfl (@pa_cons _ _ _ _ _ (pv 6) (@pa_cons _ _ _ _ _ (@pe_callH _ _ _ _ _ _ _ _ _ _ C_l_mixed (hr.mono (by decide)) rfl (@pa_cons _ _ _ _ _ (pv 0) (@pa_cons _ _ _ _ _ (@pe_op _ _ _ _ _ _ _ _ op_add (pv 3) pe_int) (@pa_cons _ _ _ _ _ pe_int pa_nil (by rfl)) (by rfl)) (by rfl)) (by decide) (by rfl) (by rfl)) pa_nil (by rfl)) (by rfl)) (by decide) (by rfl) (by rfl)) (by rfl) (by first | exact Or.inl rfl | exact Or.inr rfl)))
            pss_nil)
          (@pss_one _ _ _ (ps_for PassesOwn.never rfl (pi_list (@pe_lst _ _ _ _ (@pa_cons _ _ _ _ _ (pv 1) (@pa_cons _ _ _ _ _ (pv 2) pa_nil (by rfl)) (by rfl)))) (pg_name (i := 7) sc_law.nd rfl (Or.inl rfl))
            (@pss_one _ _ _ (@ps_if _ _ _ _ _ _ _ _ (pt_not (pt_val (@pe_ix _ _ _ _ _ _ _ ix_tup (@pe_callH _ _ _ _ _ _ _ _ _ _ C_l_read (hr.mono (by decide)) rfl (@pa_cons _ _ _ _ _ (pv 7) (@pa_cons _ _ _ _ _ (pv 6) pa_nil (by rfl)) (by rfl)) (by decide) (by rfl) (by rfl)) pe_int (fun _ _ => rfl))))
              (@pss_one _ _ _ (@ps_ret _ _ _ _ pe_bl))
              pss_nil)))))))
        (@pss_cons _ _ _ _ _ (ps_asg (@pe_callH _ _ _ _ _ _ _ _ _ _ C_l_bound (hr.mono (by decide)) rfl (@pa_cons _ _ _ _ _ (pv 1) (@pa_cons _ _ _ _ _ (@pe_callH _ _ _ _ _ _ _ _ _ _ C_l_mixed (hr.mono (by decide)) rfl (@pa_cons _ _ _ _ _ (pv 0) (@pa_cons _ _ _ _ _ (@pe_op _ _ _ _ _ _ _ _ op_add (pv 3) pe_int) (@pa_cons _ _ _ _ _ pe_int pa_nil (by rfl)) (by rfl)) (by rfl)) (by decide) (by rfl) (by rfl)) pa_nil (by rfl)) (by rfl)) (by decide) (by rfl) (by rfl)) (pg_tup rfl (pgs_cons (pg_name (i := 6) sc_law.nd rfl (Or.inl rfl)) (pgs_cons (pg_name (i := 8) sc_law.nd rfl (Or.inl rfl)) pgs_nil))))
        (@pss_one _ _ _ (@ps_if _ _ _ _ _ _ _ _ (@pt_cmpR _ _ _ _ _ _ _ _ (op_neTd (d := 0) (R := BoolR) eqok_bool (by decide) hr.units) (@pe_callH _ _ _ _ _ _ _ _ _ _ C_l_read (hr.mono (by decide)) rfl (@pa_cons _ _ _ _ _ (pv 1) (@pa_cons _ _ _ _ _ (pv 6) pa_nil (by rfl)) (by rfl)) (by decide) (by rfl) (by rfl)) (@pe_tup _ _ _ _ _ (@pa_cons _ _ _ _ _ pe_bl (@pa_cons _ _ _ _ _ (pv 8) pa_nil (by rfl)) (by rfl))) (nomark _))
          (@pss_one _ _ _ (@ps_ret _ _ _ _ pe_bl))
          pss_nil))))))
      (@pss_one _ _ _ (@ps_ret _ _ _ _ pe_bl))))), ?_⟩
    refine ⟨_, rfl, a, ns, rfl, hS, hl, fun n n3 n24 => ?_⟩
    have hn : 0 < n := by omega
    refine ⟨_, rfl, _, rfl, a, ns, 0, 20, rfl, hS, hl, ⟨by decide, by decide⟩, ⟨by decide, by decide⟩, fun c c0 c1 => ?_⟩
    refine ⟨_, _, rfl, rfl, (by show (0 : Int) < 21; decide), _, _, rfl, rfl, _, _, rfl, rfl, (by show (0 : Int) < 22; decide), _, _, rfl, rfl, ?_⟩
    have e0 := mod_lo (n + c % 21) (n := 22) (by decide)
    have e1 := mod_hi (n + c % 21) (n := 22) (by decide)
    dsimp only
    generalize (n + c % 21) % 22 = e at e0 e1
    have c5 : cntS 5 = 121 := by decide
    refine ⟨_, rfl, by decide, by decide, for_range (fun i σ G => ∃ (w3 w4 w5 w6 w7 w8 : Option V), σ = [some (.ref a), some (.int n), some (.int (3 + e)), w3, w4, w5, w6, w7, w8] ∧ Same H G) ⟨_, _, _, _, _, _, rfl, Same.refl _⟩ ?_ ?_⟩
    · rintro i σ G hi ⟨w3, w4, w5, w6, w7, w8, rfl, sG⟩
      have hi : i < 6 := hi
      refine ⟨_, rfl, _, rfl, _, _, rfl, rfl, .inl ⟨by decide, by decide⟩, _, _, rfl, rfl, _, rfl, _, _, rfl, rfl, .inl ⟨by decide, by decide⟩, _, _, rfl, rfl, three_fit, fun b b0 => ?_⟩
      refine ⟨_, rfl, 5, a, ns, b, _, _, 0, n, rfl, (fun H' z => (SameX.back b0 (Same.new b0) z).seq (sG.seq hS)), hl, upd_same, ⟨by omega, by rw [c5]; omega⟩, hn, n24, by decide, by decide, fun v H2 i2 s sx hb2 il iu ib rs gs nn => ?_⟩
      have s2 := sG.trans (SameX.back b0 (Same.new b0) sx)
      have n5 : nod 5 s ≤ 20 := by omega
      have tl := txt_len n24 5 s gs
      have sgt := sg_txt 5 s gs
      refine ⟨_, rfl, by decide, by decide, for_range (fun l σ G3 => ∃ (w5 w6 w7 w8 : Option V), σ = [some (.ref a), some (.int n), some (.int (3 + e)), some (.int (0 + (i : Int))), some v, w5, w6, w7, w8] ∧ Same H2 G3) ⟨_, _, _, _, rfl, Same.refl _⟩ ?_ ?_⟩
      · rintro l σ G3 hl2 ⟨w5, w6, w7, w8, rfl, s3⟩
        have hl2 : l < 2 := hl2
        refine ⟨_, rfl, 5, v, s, n, 0, rfl, by decide, n24, SayR.mono s3.tk _ _ _ rs, gs, by omega, fun G4 s4 => ?_⟩
        have S4 := s2.trans (s3.trans s4)
        refine ⟨_, rfl, _, rfl, _, _, rfl, rfl, _, rfl, _, _, rfl, rfl, a, ns, _, _, rfl, S4.seq hS, hl, ⟨by omega, by omega⟩, ⟨by omega, by omega⟩, fun x x0 x1 => ?_⟩
        refine ⟨txt 5 s, x, rfl, x0, sgt, by omega, fun t1 sg1 l1 => ?_⟩
        refine ⟨_, rfl, rfl, _, rfl, if2 (fun e3 => ?_) (fun e3 => ?_)⟩
        · refine ⟨_, rfl, _, rfl, _, rfl, _, _, rfl, rfl, a, ns, _, 62, rfl, S4.seq hS, hl, ⟨by omega, by omega⟩, ⟨by decide, by decide⟩, fun y y0 y1 => ?_⟩
          refine ⟨t1, y, rfl, y0, sg1, by omega, fun t2 sg2 l2 => ?_⟩
          refine ⟨_, rfl, _, rfl, two_fit, fun L L0 => ⟨L, rfl, ⟨_, SqL.of upd_same⟩, for_list (xs := [V.int n, V.int (3 + e)]) (fun _ σ G5 => ∃ w7 : Option V, σ = [some (.ref a), some (.int n), some (.int (3 + e)), some (.int (0 + (i : Int))), some v, some (.int (0 + (l : Int))), some (.str t2), w7, w8] ∧ Same G4 G5 ∧ G5 L = some (.lst [V.int n, V.int (3 + e)])) ⟨_, rfl, Same.new L0, upd_same⟩ ?_ ?_ ?_⟩⟩
          · rintro i5 σ G5 _ ⟨w7, rfl, s5, hL⟩
            exact SqL.of hL
          · rintro i5 x5 σ G5 hx5 ⟨w7, rfl, s5, hL⟩
            obtain ⟨m, em, m3, m24⟩ : ∃ m : Int, x5 = .int m ∧ 3 ≤ m ∧ m ≤ 24 := by
              rcases List.mem_cons.mp (List.mem_of_getElem? hx5) with z | z
              · exact ⟨n, z, n3, n24⟩
              · exact ⟨3 + e, List.mem_singleton.mp z, by omega, by omega⟩
            subst em
            exact ⟨_, rfl, _, rfl, m, t2, rfl, m3, m24, sg2, by omega, fun r6 G6 s6 h6 => ⟨r6, _, _, _, rfl, rfl, SqT.of h6, rfl, true, rfl, ifn rfl ⟨_, rfl, s5.trans s6, s6 _ _ hL⟩⟩⟩
          · rintro σ G5 ⟨w7, rfl, s5, hL⟩
            exact ⟨_, _, _, _, rfl, (s3.trans s4).trans s5⟩
        · refine ⟨_, rfl, _, rfl, two_fit, fun L L0 => ⟨L, rfl, ⟨_, SqL.of upd_same⟩, for_list (xs := [V.int n, V.int (3 + e)]) (fun _ σ G5 => ∃ w7 : Option V, σ = [some (.ref a), some (.int n), some (.int (3 + e)), some (.int (0 + (i : Int))), some v, some (.int (0 + (l : Int))), some (.str t1), w7, w8] ∧ Same G4 G5 ∧ G5 L = some (.lst [V.int n, V.int (3 + e)])) ⟨_, rfl, Same.new L0, upd_same⟩ ?_ ?_ ?_⟩⟩
          · rintro i5 σ G5 _ ⟨w7, rfl, s5, hL⟩
            exact SqL.of hL
          · rintro i5 x5 σ G5 hx5 ⟨w7, rfl, s5, hL⟩
            obtain ⟨m, em, m3, m24⟩ : ∃ m : Int, x5 = .int m ∧ 3 ≤ m ∧ m ≤ 24 := by
              rcases List.mem_cons.mp (List.mem_of_getElem? hx5) with z | z
              · exact ⟨n, z, n3, n24⟩
              · exact ⟨3 + e, List.mem_singleton.mp z, by omega, by omega⟩
            subst em
            exact ⟨_, rfl, _, rfl, m, t1, rfl, m3, m24, sg1, by omega, fun r6 G6 s6 h6 => ⟨r6, _, _, _, rfl, rfl, SqT.of h6, rfl, true, rfl, ifn rfl ⟨_, rfl, s5.trans s6, s6 _ _ hL⟩⟩⟩
          · rintro σ G5 ⟨w7, rfl, s5, hL⟩
            exact ⟨_, _, _, _, rfl, (s3.trans s4).trans s5⟩
      · rintro σ G3 ⟨w5, w6, w7, w8, rfl, s3⟩
        have S3 := s2.trans s3
        refine ⟨_, rfl, _, rfl, _, rfl, _, _, rfl, rfl, a, ns, _, 63, rfl, S3.seq hS, hl, ⟨by omega, by omega⟩, ⟨by decide, by decide⟩, fun x x0 x1 => ?_⟩
        refine ⟨n, x, rfl, n3, n24, fun r y G4 s4 h4 hy => ?_⟩
        obtain ⟨o1, o2, o3⟩ := bnd_ok n3 n24 y hy
        refine ⟨r, _, rfl, SqT.of h4, rfl, _, _, rfl, _, _, rfl, rfl, ?_⟩
        refine ⟨_, rfl, _, rfl, n, y.1, rfl, n3, n24, o2, o3, fun r5 G5 s5 h5 => ⟨_, rfl, two_fit, fun r6 r60 => ?_⟩⟩
        refine ⟨r5, r6, _, _, [true, (rdF n y.1).isSome], [true, y.2], rfl, rfl, SqT.of (Same.new r60 _ _ h5), SqT.of upd_same, .cons rfl (.cons rfl .nil), .cons rfl (.cons rfl .nil), _, rfl, ifn (by rw [o1, decide_eq_true rfl]; rfl) ?_⟩
        exact ⟨_, _, _, _, _, _, rfl, S3.trans (s4.trans (s5.trans (Same.new r60)))⟩
    · rintro σ G ⟨w3, w4, w5, w6, w7, w8, rfl, sG⟩
      exact q _
end
set_option maxHeartbeats 8000000 in
theorem all_mk {l : PySem.W.OpenLaw} {w : World} {K : PySem.W.Frag} {h : Heap} {mg : Str → Option Value} {fa : Addr} (X : K.In h) (G : h.Ns mainGlobals mg) (hfa : mg "law" = some (.ref fa))
    {f1 : Addr} {od1 an1 : Option Addr} {sl1 : Array (Option Value)} {oc1 kV1 dc1 pm1 cd1 ct1 : Value}
    {f2 : Addr} {od2 an2 : Option Addr} {sl2 : Array (Option Value)} {oc2 kV2 dc2 pm2 cd2 ct2 : Value}
    {f3 : Addr} {od3 an3 : Option Addr} {sl3 : Array (Option Value)} {oc3 kV3 dc3 pm3 cd3 ct3 : Value}
    {f4 : Addr} {od4 an4 : Option Addr} {sl4 : Array (Option Value)} {oc4 kV4 dc4 pm4 cd4 ct4 : Value}
    {f5 : Addr} {od5 an5 : Option Addr} {sl5 : Array (Option Value)} {oc5 kV5 dc5 pm5 cd5 ct5 : Value}
    {f6 : Addr} {od6 an6 : Option Addr} {sl6 : Array (Option Value)} {oc6 kV6 dc6 pm6 cd6 ct6 : Value}
    {f7 : Addr} {od7 an7 : Option Addr} {sl7 : Array (Option Value)} {oc7 kV7 dc7 pm7 cd7 ct7 : Value}
    {f8 : Addr} {od8 an8 : Option Addr} {sl8 : Array (Option Value)} {oc8 kV8 dc8 pm8 cd8 ct8 : Value}
    {f9 : Addr} {od9 an9 : Option Addr} {sl9 : Array (Option Value)} {oc9 kV9 dc9 pm9 cd9 ct9 : Value}
    {f10 : Addr} {od10 an10 : Option Addr} {sl10 : Array (Option Value)} {oc10 kV10 dc10 pm10 cd10 ct10 : Value}
    {f11 : Addr} {od11 an11 : Option Addr} {sl11 : Array (Option Value)} {oc11 kV11 dc11 pm11 cd11 ct11 : Value}
    {f12 : Addr} {od12 an12 : Option Addr} {sl12 : Array (Option Value)} {oc12 kV12 dc12 pm12 cd12 ct12 : Value}
    {f13 : Addr} {od13 an13 : Option Addr} {sl13 : Array (Option Value)} {oc13 kV13 dc13 pm13 cd13 ct13 : Value}
    {f14 : Addr} {od14 an14 : Option Addr} {sl14 : Array (Option Value)} {oc14 kV14 dc14 pm14 cd14 ct14 : Value}
    {f15 : Addr} {od15 an15 : Option Addr} {sl15 : Array (Option Value)} {oc15 kV15 dc15 pm15 cd15 ct15 : Value}
    {f16 : Addr} {od16 an16 : Option Addr} {sl16 : Array (Option Value)} {oc16 kV16 dc16 pm16 cd16 ct16 : Value}
    {f17 : Addr} {od17 an17 : Option Addr} {sl17 : Array (Option Value)} {oc17 kV17 dc17 pm17 cd17 ct17 : Value}
    {f18 : Addr} {od18 an18 : Option Addr} {sl18 : Array (Option Value)} {oc18 kV18 dc18 pm18 cd18 ct18 : Value}
    {f19 : Addr} {od19 an19 : Option Addr} {sl19 : Array (Option Value)} {oc19 kV19 dc19 pm19 cd19 ct19 : Value}
    {f20 : Addr} {od20 an20 : Option Addr} {sl20 : Array (Option Value)} {oc20 kV20 dc20 pm20 cd20 ct20 : Value}
    {f21 : Addr} {od21 an21 : Option Addr} {sl21 : Array (Option Value)} {oc21 kV21 dc21 pm21 cd21 ct21 : Value}
    {f22 : Addr} {od22 an22 : Option Addr} {sl22 : Array (Option Value)} {oc22 kV22 dc22 pm22 cd22 ct22 : Value}
    {f23 : Addr} {od23 an23 : Option Addr} {sl23 : Array (Option Value)} {oc23 kV23 dc23 pm23 cd23 ct23 : Value}
    {f24 : Addr} {od24 an24 : Option Addr} {sl24 : Array (Option Value)} {oc24 kV24 dc24 pm24 cd24 ct24 : Value}
    {f25 : Addr} {od25 an25 : Option Addr} {sl25 : Array (Option Value)} {oc25 kV25 dc25 pm25 cd25 ct25 : Value}
    {f26 : Addr} {od26 an26 : Option Addr} {sl26 : Array (Option Value)} {oc26 kV26 dc26 pm26 cd26 ct26 : Value}
    {gToneError : Addr} {gNoText : Addr} {gNoHalf : Addr} {gNoLeading : Addr} {gNoRow : Addr} {gUnknown : Addr} {eNoText : ClassData}
    {gFIGURES : Tok}
    {gDEEPEST : Tok}
    {gMOST : Tok}
    (a1 : PySem.W.nsIn K mainGlobals "straight_within" = some (some (.ref f1))) (l1 : K.lookup f1 = some ⟨oc1, od1, .func (PySem.W.fnOf "straight_within" "straight_within" (defArgs s_straight_within) (defBody s_straight_within) (defScope s_straight_within) .none kV1 dc1 pm1 an1 cd1 ct1), sl1⟩) (c1 : PySem.W.codeIn K cd1 "straight_within" = true) (k1 : PySem.W.keepIn K (.ref f1) = true)
    (a2 : PySem.W.nsIn K mainGlobals "depth" = some (some (.ref f2))) (l2 : K.lookup f2 = some ⟨oc2, od2, .func (PySem.W.fnOf "depth" "depth" (defArgs s_depth) (defBody s_depth) (defScope s_depth) .none kV2 dc2 pm2 an2 cd2 ct2), sl2⟩) (c2 : PySem.W.codeIn K cd2 "depth" = true) (k2 : PySem.W.keepIn K (.ref f2) = true)
    (a3 : PySem.W.nsIn K mainGlobals "altogether" = some (some (.ref f3))) (l3 : K.lookup f3 = some ⟨oc3, od3, .func (PySem.W.fnOf "altogether" "altogether" (defArgs s_altogether) (defBody s_altogether) (defScope s_altogether) .none kV3 dc3 pm3 an3 cd3 ct3), sl3⟩) (c3 : PySem.W.codeIn K cd3 "altogether" = true) (k3 : PySem.W.keepIn K (.ref f3) = true)
    (a4 : PySem.W.nsIn K mainGlobals "read_tone" = some (some (.ref f4))) (l4 : K.lookup f4 = some ⟨oc4, od4, .func (PySem.W.fnOf "read_tone" "read_tone" (defArgs s_read_tone) (defBody s_read_tone) (defScope s_read_tone) .none kV4 dc4 pm4 an4 cd4 ct4), sl4⟩) (c4 : PySem.W.codeIn K cd4 "read_tone" = true) (k4 : PySem.W.keepIn K (.ref f4) = true)
    (a5 : PySem.W.nsIn K mainGlobals "read_change" = some (some (.ref f5))) (l5 : K.lookup f5 = some ⟨oc5, od5, .func (PySem.W.fnOf "read_change" "read_change" (defArgs s_read_change) (defBody s_read_change) (defScope s_read_change) .none kV5 dc5 pm5 an5 cd5 ct5), sl5⟩) (c5 : PySem.W.codeIn K cd5 "read_change" = true) (k5 : PySem.W.keepIn K (.ref f5) = true)
    (a6 : PySem.W.nsIn K mainGlobals "end_of_figures" = some (some (.ref f6))) (l6 : K.lookup f6 = some ⟨oc6, od6, .func (PySem.W.fnOf "end_of_figures" "end_of_figures" (defArgs s_end_of_figures) (defBody s_end_of_figures) (defScope s_end_of_figures) .none kV6 dc6 pm6 an6 cd6 ct6), sl6⟩) (c6 : PySem.W.codeIn K cd6 "end_of_figures" = true) (k6 : PySem.W.keepIn K (.ref f6) = true)
    (a7 : PySem.W.nsIn K mainGlobals "read_many" = some (some (.ref f7))) (l7 : K.lookup f7 = some ⟨oc7, od7, .func (PySem.W.fnOf "read_many" "read_many" (defArgs s_read_many) (defBody s_read_many) (defScope s_read_many) .none kV7 dc7 pm7 an7 cd7 ct7), sl7⟩) (c7 : PySem.W.codeIn K cd7 "read_many" = true) (k7 : PySem.W.keepIn K (.ref f7) = true)
    (a8 : PySem.W.nsIn K mainGlobals "read_whole" = some (some (.ref f8))) (l8 : K.lookup f8 = some ⟨oc8, od8, .func (PySem.W.fnOf "read_whole" "read_whole" (defArgs s_read_whole) (defBody s_read_whole) (defScope s_read_whole) .none kV8 dc8 pm8 an8 cd8 ct8), sl8⟩) (c8 : PySem.W.codeIn K cd8 "read_whole" = true) (k8 : PySem.W.keepIn K (.ref f8) = true)
    (a9 : PySem.W.nsIn K mainGlobals "read_row_behind_bracket" = some (some (.ref f9))) (l9 : K.lookup f9 = some ⟨oc9, od9, .func (PySem.W.fnOf "read_row_behind_bracket" "read_row_behind_bracket" (defArgs s_read_row_behind_bracket) (defBody s_read_row_behind_bracket) (defScope s_read_row_behind_bracket) .none kV9 dc9 pm9 an9 cd9 ct9), sl9⟩) (c9 : PySem.W.codeIn K cd9 "read_row_behind_bracket" = true) (k9 : PySem.W.keepIn K (.ref f9) = true)
    (a10 : PySem.W.nsIn K mainGlobals "read_without_number" = some (some (.ref f10))) (l10 : K.lookup f10 = some ⟨oc10, od10, .func (PySem.W.fnOf "read_without_number" "read_without_number" (defArgs s_read_without_number) (defBody s_read_without_number) (defScope s_read_without_number) .none kV10 dc10 pm10 an10 cd10 ct10), sl10⟩) (c10 : PySem.W.codeIn K cd10 "read_without_number" = true) (k10 : PySem.W.keepIn K (.ref f10) = true)
    (a11 : PySem.W.nsIn K mainGlobals "read_saying" = some (some (.ref f11))) (l11 : K.lookup f11 = some ⟨oc11, od11, .func (PySem.W.fnOf "read_saying" "read_saying" (defArgs s_read_saying) (defBody s_read_saying) (defScope s_read_saying) .none kV11 dc11 pm11 an11 cd11 ct11), sl11⟩) (c11 : PySem.W.codeIn K cd11 "read_saying" = true) (k11 : PySem.W.keepIn K (.ref f11) = true)
    (a12 : PySem.W.nsIn K mainGlobals "_law_cell_at" = some (some (.ref f12))) (l12 : K.lookup f12 = some ⟨oc12, od12, .func (PySem.W.fnOf "_law_cell_at" "_law_cell_at" (defArgs s_l_cell_at) (defBody s_l_cell_at) (defScope s_l_cell_at) .none kV12 dc12 pm12 an12 cd12 ct12), sl12⟩) (c12 : PySem.W.codeIn K cd12 "_law_cell_at" = true) (k12 : PySem.W.keepIn K (.ref f12) = true)
    (a13 : PySem.W.nsIn K mainGlobals "_law_mixed" = some (some (.ref f13))) (l13 : K.lookup f13 = some ⟨oc13, od13, .func (PySem.W.fnOf "_law_mixed" "_law_mixed" (defArgs s_l_mixed) (defBody s_l_mixed) (defScope s_l_mixed) .none kV13 dc13 pm13 an13 cd13 ct13), sl13⟩) (c13 : PySem.W.codeIn K cd13 "_law_mixed" = true) (k13 : PySem.W.keepIn K (.ref f13) = true)
    (a14 : PySem.W.nsIn K mainGlobals "_law_wheel" = some (some (.ref f14))) (l14 : K.lookup f14 = some ⟨oc14, od14, .func (PySem.W.fnOf "_law_wheel" "_law_wheel" (defArgs s_l_wheel) (defBody s_l_wheel) (defScope s_l_wheel) .none kV14 dc14 pm14 an14 cd14 ct14), sl14⟩) (c14 : PySem.W.codeIn K cd14 "_law_wheel" = true) (k14 : PySem.W.keepIn K (.ref f14) = true)
    (a15 : PySem.W.nsIn K mainGlobals "_law_bare" = some (some (.ref f15))) (l15 : K.lookup f15 = some ⟨oc15, od15, .func (PySem.W.fnOf "_law_bare" "_law_bare" (defArgs s_l_bare) (defBody s_l_bare) (defScope s_l_bare) .none kV15 dc15 pm15 an15 cd15 ct15), sl15⟩) (c15 : PySem.W.codeIn K cd15 "_law_bare" = true) (k15 : PySem.W.keepIn K (.ref f15) = true)
    (a16 : PySem.W.nsIn K mainGlobals "_law_saying" = some (some (.ref f16))) (l16 : K.lookup f16 = some ⟨oc16, od16, .func (PySem.W.fnOf "_law_saying" "_law_saying" (defArgs s_l_saying) (defBody s_l_saying) (defScope s_l_saying) .none kV16 dc16 pm16 an16 cd16 ct16), sl16⟩) (c16 : PySem.W.codeIn K cd16 "_law_saying" = true) (k16 : PySem.W.keepIn K (.ref f16) = true)
    (a17 : PySem.W.nsIn K mainGlobals "_law_saying_row" = some (some (.ref f17))) (l17 : K.lookup f17 = some ⟨oc17, od17, .func (PySem.W.fnOf "_law_saying_row" "_law_saying_row" (defArgs s_l_saying_row) (defBody s_l_saying_row) (defScope s_l_saying_row) .none kV17 dc17 pm17 an17 cd17 ct17), sl17⟩) (c17 : PySem.W.codeIn K cd17 "_law_saying_row" = true) (k17 : PySem.W.keepIn K (.ref f17) = true)
    (a18 : PySem.W.nsIn K mainGlobals "_law_sign" = some (some (.ref f18))) (l18 : K.lookup f18 = some ⟨oc18, od18, .func (PySem.W.fnOf "_law_sign" "_law_sign" (defArgs s_l_sign) (defBody s_l_sign) (defScope s_l_sign) .none kV18 dc18 pm18 an18 cd18 ct18), sl18⟩) (c18 : PySem.W.codeIn K cd18 "_law_sign" = true) (k18 : PySem.W.keepIn K (.ref f18) = true)
    (a19 : PySem.W.nsIn K mainGlobals "_law_bent" = some (some (.ref f19))) (l19 : K.lookup f19 = some ⟨oc19, od19, .func (PySem.W.fnOf "_law_bent" "_law_bent" (defArgs s_l_bent) (defBody s_l_bent) (defScope s_l_bent) .none kV19 dc19 pm19 an19 cd19 ct19), sl19⟩) (c19 : PySem.W.codeIn K cd19 "_law_bent" = true) (k19 : PySem.W.keepIn K (.ref f19) = true)
    (a20 : PySem.W.nsIn K mainGlobals "_law_parts" = some (some (.ref f20))) (l20 : K.lookup f20 = some ⟨oc20, od20, .func (PySem.W.fnOf "_law_parts" "_law_parts" (defArgs s_l_parts) (defBody s_l_parts) (defScope s_l_parts) .none kV20 dc20 pm20 an20 cd20 ct20), sl20⟩) (c20 : PySem.W.codeIn K cd20 "_law_parts" = true) (k20 : PySem.W.keepIn K (.ref f20) = true)
    (a21 : PySem.W.nsIn K mainGlobals "_law_deep" = some (some (.ref f21))) (l21 : K.lookup f21 = some ⟨oc21, od21, .func (PySem.W.fnOf "_law_deep" "_law_deep" (defArgs s_l_deep) (defBody s_l_deep) (defScope s_l_deep) .none kV21 dc21 pm21 an21 cd21 ct21), sl21⟩) (c21 : PySem.W.codeIn K cd21 "_law_deep" = true) (k21 : PySem.W.keepIn K (.ref f21) = true)
    (a22 : PySem.W.nsIn K mainGlobals "_law_good" = some (some (.ref f22))) (l22 : K.lookup f22 = some ⟨oc22, od22, .func (PySem.W.fnOf "_law_good" "_law_good" (defArgs s_l_good) (defBody s_l_good) (defScope s_l_good) .none kV22 dc22 pm22 an22 cd22 ct22), sl22⟩) (c22 : PySem.W.codeIn K cd22 "_law_good" = true) (k22 : PySem.W.keepIn K (.ref f22) = true)
    (a23 : PySem.W.nsIn K mainGlobals "_law_many" = some (some (.ref f23))) (l23 : K.lookup f23 = some ⟨oc23, od23, .func (PySem.W.fnOf "_law_many" "_law_many" (defArgs s_l_many) (defBody s_l_many) (defScope s_l_many) .none kV23 dc23 pm23 an23 cd23 ct23), sl23⟩) (c23 : PySem.W.codeIn K cd23 "_law_many" = true) (k23 : PySem.W.keepIn K (.ref f23) = true)
    (a24 : PySem.W.nsIn K mainGlobals "_law_read" = some (some (.ref f24))) (l24 : K.lookup f24 = some ⟨oc24, od24, .func (PySem.W.fnOf "_law_read" "_law_read" (defArgs s_l_read) (defBody s_l_read) (defScope s_l_read) .none kV24 dc24 pm24 an24 cd24 ct24), sl24⟩) (c24 : PySem.W.codeIn K cd24 "_law_read" = true) (k24 : PySem.W.keepIn K (.ref f24) = true)
    (a25 : PySem.W.nsIn K mainGlobals "_law_bound" = some (some (.ref f25))) (l25 : K.lookup f25 = some ⟨oc25, od25, .func (PySem.W.fnOf "_law_bound" "_law_bound" (defArgs s_l_bound) (defBody s_l_bound) (defScope s_l_bound) .none kV25 dc25 pm25 an25 cd25 ct25), sl25⟩) (c25 : PySem.W.codeIn K cd25 "_law_bound" = true) (k25 : PySem.W.keepIn K (.ref f25) = true)
    (a26 : PySem.W.nsIn K mainGlobals "law" = some (some (.ref f26))) (l26 : K.lookup f26 = some ⟨oc26, od26, .func (PySem.W.fnOf "law" "law" (defArgs s_law) (defBody s_law) (defScope s_law) .none kV26 dc26 pm26 an26 cd26 ct26), sl26⟩) (c26 : PySem.W.codeIn K cd26 "law" = true) (k26 : PySem.W.keepIn K (.ref f26) = true)
    (z_len : PySem.W.nsIn K mainGlobals "len" = some none)
    (z_max : PySem.W.nsIn K mainGlobals "max" = some none)
    (z_range : PySem.W.nsIn K mainGlobals "range" = some none)
    (z_list : PySem.W.nsIn K mainGlobals "list" = some none)
    (z_tuple : PySem.W.nsIn K mainGlobals "tuple" = some none)
    (z_str : PySem.W.nsIn K mainGlobals "str" = some none)
    (z_isinstance : PySem.W.nsIn K mainGlobals "isinstance" = some none)
    (z_ValueError : PySem.W.nsIn K mainGlobals "ValueError" = some none)
    (z_int : PySem.W.nsIn K mainGlobals "int" = some none)
    (z_bool : PySem.W.nsIn K mainGlobals "bool" = some none)
    (z_sum : PySem.W.nsIn K mainGlobals "sum" = some none)
    (z_all : PySem.W.nsIn K mainGlobals "all" = some none)
    (g1ToneError : PySem.W.nsIn K mainGlobals "ToneError" = some (some (.ref gToneError)))
    (g1NoText : PySem.W.nsIn K mainGlobals "NoText" = some (some (.ref gNoText)))
    (g1NoHalf : PySem.W.nsIn K mainGlobals "NoHalf" = some (some (.ref gNoHalf)))
    (g1NoLeading : PySem.W.nsIn K mainGlobals "NoLeading" = some (some (.ref gNoLeading)))
    (g1NoRow : PySem.W.nsIn K mainGlobals "NoRow" = some (some (.ref gNoRow)))
    (g1Unknown : PySem.W.nsIn K mainGlobals "Unknown" = some (some (.ref gUnknown)))
    (g2NoText : PySem.W.excIn K gNoText [.type "ValueError", .type "Exception", .type "BaseException", .type "object"] "ValueError.__new__" = true)
    (g3NoText : PySem.W.exmOne K (.ref gNoText) (.ref gToneError) = some true)
    (g4NoText : PySem.W.clsIn K gNoText = some eNoText)
    (g5NoText : PySem.W.findIn K (.ref gNoText) "__getattribute__" = some (some (.builtin "BaseException.__getattribute__")))
    (g6NoText : PySem.W.findIn K (.ref gNoText) "__getattr__" = some none)
    (g7NoText : PySem.W.findIn K (.ref gNoText) "__class__" = some (some (.builtin "object.__class__")))
    (g8NoText : PySem.W.specialIn K (.builtin "object.__class__") "__get__" = some (some (.builtin "getset_descriptor.__get__")))
    (g9NoText : PySem.W.takesIn K (.builtin "object.__class__") = some true)
    (h1NoText : PySem.W.mroIn K gNoText (.type "object") = some true)
    (h2NoText : PySem.W.mroIn K gNoText (.type "BaseException") = some true)
    (h3NoText : PySem.W.kitOne K (.ref gNoText) (.ref gNoText) = some true)
    (h4NoText : PySem.W.kitOne K (.ref gNoText) (.type "ValueError") = some true)
    (h5NoText : PySem.W.kitAny K (.ref gNoText) [.ref gNoHalf, .ref gNoLeading, .ref gNoRow, .ref gUnknown] = some false)
    (g1FIGURES : PySem.W.nsIn K mainGlobals "FIGURES" = some (some (.str "0123456789" gFIGURES)))
    (g1DEEPEST : PySem.W.nsIn K mainGlobals "DEEPEST" = some (some (.int 8 gDEEPEST)))
    (g1MOST : PySem.W.nsIn K mainGlobals "MOST" = some (some (.int 60 gMOST))) :
    ∃ fd : FuncData, (∀ (s : Shared) (v : Value), BindsTo s fd ⟨[v], []⟩ [("_law_script", v)]) ∧ ∀ base : Heap, K.In base → base.Ns mainGlobals mg → FnOk l.prog w K mg base CX0 70 fa fd ["_law_script"] (sp_law w K) := by
  have e := hfa.symm.trans (PySem.W.mg_of X G a26)
  cases e
  have T : Txt K mg := ⟨PySem.W.mg_none_of X G z_len, PySem.W.mg_none_of X G z_max, PySem.W.mg_none_of X G z_range, PySem.W.mg_none_of X G z_list, PySem.W.mg_none_of X G z_tuple, PySem.W.mg_none_of X G z_str, PySem.W.mg_none_of X G z_isinstance, PySem.W.mg_none_of X G z_ValueError, PySem.W.mg_none_of X G z_int, PySem.W.mg_none_of X G z_bool, PySem.W.mg_none_of X G z_sum, PySem.W.mg_none_of X G z_all, ⟨_, _, _, _, _, _, PySem.W.mg_of X G g1ToneError, PySem.W.mg_of X G g1NoText, PySem.W.mg_of X G g1NoHalf, PySem.W.mg_of X G g1NoLeading, PySem.W.mg_of X G g1NoRow, PySem.W.mg_of X G g1Unknown, g1NoText, g2NoText, g3NoText, ⟨by rw [g4NoText]; rfl, g5NoText, g6NoText, g7NoText, g8NoText, g9NoText, h1NoText, h2NoText⟩, h3NoText, h4NoText, h5NoText⟩, ⟨_, PySem.W.mg_of X G g1FIGURES, ⟨_, rfl⟩⟩, ⟨_, PySem.W.mg_of X G g1DEEPEST, ⟨_, rfl⟩⟩, ⟨_, PySem.W.mg_of X G g1MOST, ⟨_, rfl⟩⟩⟩
  have F1 := fun_mk (st := s_straight_within) l1 c1 k1
  have F2 := fun_mk (st := s_depth) l2 c2 k2
  have F3 := fun_mk (st := s_altogether) l3 c3 k3
  have F4 := fun_mk (st := s_read_tone) l4 c4 k4
  have F5 := fun_mk (st := s_read_change) l5 c5 k5
  have F6 := fun_mk (st := s_end_of_figures) l6 c6 k6
  have F7 := fun_mk (st := s_read_many) l7 c7 k7
  have F8 := fun_mk (st := s_read_whole) l8 c8 k8
  have F9 := fun_mk (st := s_read_row_behind_bracket) l9 c9 k9
  have F10 := fun_mk (st := s_read_without_number) l10 c10 k10
  have F11 := fun_mk (st := s_read_saying) l11 c11 k11
  have F12 := fun_mk (st := s_l_cell_at) l12 c12 k12
  have F13 := fun_mk (st := s_l_mixed) l13 c13 k13
  have F14 := fun_mk (st := s_l_wheel) l14 c14 k14
  have F15 := fun_mk (st := s_l_bare) l15 c15 k15
  have F16 := fun_mk (st := s_l_saying) l16 c16 k16
  have F17 := fun_mk (st := s_l_saying_row) l17 c17 k17
  have F18 := fun_mk (st := s_l_sign) l18 c18 k18
  have F19 := fun_mk (st := s_l_bent) l19 c19 k19
  have F20 := fun_mk (st := s_l_parts) l20 c20 k20
  have F21 := fun_mk (st := s_l_deep) l21 c21 k21
  have F22 := fun_mk (st := s_l_good) l22 c22 k22
  have F23 := fun_mk (st := s_l_many) l23 c23 k23
  have F24 := fun_mk (st := s_l_read) l24 c24 k24
  have F25 := fun_mk (st := s_l_bound) l25 c25 k25
  have F26 := fun_mk (st := s_law) l26 c26 k26
  refine ⟨PySem.W.fnOf "law" "law" (defArgs s_law) (defBody s_law) (defScope s_law) .none kV26 dc26 pm26 an26 cd26 ct26, fun s v => .of_eq rfl, fun base _ _ => ?_⟩
  have C_straight_within : Has l.prog w K mg base 1 "straight_within" ["saying"] (sp_straight_within w K) := ⟨_, _, ok_straight_within F1 T , PySem.W.mg_of X G a1, k1, F1.binds fun _ _ _ _ _ _ us hl => match us, hl with | [_], _ => rfl⟩
  have C_depth : Has l.prog w K mg base (20 * 1 + 2) "depth" ["saying"] (sp_depth (20) w K) := ⟨_, _, ok_depth F2 T (PySem.W.mg_of X G a2)  C_straight_within 20, PySem.W.mg_of X G a2, k2, F2.binds fun _ _ _ _ _ _ us hl => match us, hl with | [_], _ => rfl⟩
  have C_altogether : Has l.prog w K mg base (20 * 1 + 2) "altogether" ["saying"] (sp_altogether (20) w K) := ⟨_, _, ok_altogether F3 T (PySem.W.mg_of X G a3)  C_straight_within 20, PySem.W.mg_of X G a3, k3, F3.binds fun _ _ _ _ _ _ us hl => match us, hl with | [_], _ => rfl⟩
  have C_read_tone : HasX l.prog w K mg base 1 "read_tone" ["n", "text"] (sp_read_tone w K) := ⟨_, _, ok_read_tone F4 T , PySem.W.mg_of X G a4, k4, F4.binds fun _ _ _ _ _ _ us hl => match us, hl with | [_, _], _ => rfl⟩
  have C_read_change : HasX l.prog w K mg base 2 "read_change" ["n", "text"] (sp_read_change w K) := ⟨_, _, ok_read_change F5 T C_read_tone, PySem.W.mg_of X G a5, k5, F5.binds fun _ _ _ _ _ _ us hl => match us, hl with | [_, _], _ => rfl⟩
  have C_end_of_figures : Has l.prog w K mg base 1 "end_of_figures" ["text", "place"] (sp_end_of_figures w K) := ⟨_, _, ok_end_of_figures F6 T , PySem.W.mg_of X G a6, k6, F6.binds fun _ _ _ _ _ _ us hl => match us, hl with | [_, _], _ => rfl⟩
  have C_read_many : HasX l.prog w K mg base 1 "read_many" ["figures"] (sp_read_many w K) := ⟨_, _, ok_read_many F7 T , PySem.W.mg_of X G a7, k7, F7.binds fun _ _ _ _ _ _ us hl => match us, hl with | [_], _ => rfl⟩
  have C_read_without_number : HasX l.prog w K mg base (9 * 3 + 5) "read_without_number" ["n", "text", "place", "room"] (sp_read_without_number (9) w K) := ⟨_, _, ok_read_without_number F10 T (PySem.W.mg_of X G a10) F8 (PySem.W.mg_of X G a8) F9 (PySem.W.mg_of X G a9) C_end_of_figures C_read_change C_read_many 9, PySem.W.mg_of X G a10, k10, F10.binds fun _ _ _ _ _ _ us hl => match us, hl with | [_, _, _, _], _ => rfl⟩
  have C_read_whole : HasX l.prog w K mg base (9 * 3 + 6) "read_whole" ["n", "text", "place", "room"] (sp_read_whole (9) w K) := ⟨_, _, ok_read_whole 9 F8 T C_end_of_figures C_read_many C_read_without_number, PySem.W.mg_of X G a8, k8, F8.binds fun _ _ _ _ _ _ us hl => match us, hl with | [_, _, _, _], _ => rfl⟩
  have C_read_saying : HasX l.prog w K mg base 60 "read_saying" ["n", "text"] (sp_read_saying w K) := ⟨_, _, ok_read_saying F11 T C_altogether C_depth C_read_whole, PySem.W.mg_of X G a11, k11, F11.binds fun _ _ _ _ _ _ us hl => match us, hl with | [_, _], _ => rfl⟩
  have C_l_cell_at : Has l.prog w K mg base 1 "_law_cell_at" ["_law_script", "_law_k"] (sp_l_cell_at w K) := ⟨_, _, ok_l_cell_at F12 T , PySem.W.mg_of X G a12, k12, F12.binds fun _ _ _ _ _ _ us hl => match us, hl with | [_, _], _ => rfl⟩
  have C_l_mixed : Has l.prog w K mg base 2 "_law_mixed" ["_law_script", "_law_k", "_law_salt"] (sp_l_mixed w K) := ⟨_, _, ok_l_mixed F13 T C_l_cell_at, PySem.W.mg_of X G a13, k13, F13.binds fun _ _ _ _ _ _ us hl => match us, hl with | [_, _, _], _ => rfl⟩
  have C_l_wheel : Has l.prog w K mg base 3 "_law_wheel" ["_law_script", "_law_most"] (sp_l_wheel w K) := ⟨_, _, ok_l_wheel F14 T C_l_mixed, PySem.W.mg_of X G a14, k14, F14.binds fun _ _ _ _ _ _ us hl => match us, hl with | [_, _], _ => rfl⟩
  have C_l_saying : Has l.prog w K mg base (8 * 2 + 5) "_law_saying" ["_law_script", "_law_bag", "_law_n", "_law_deep_here"] (sp_l_saying (8) w K) := ⟨_, _, ok_l_saying F16 T (PySem.W.mg_of X G a16) F15 (PySem.W.mg_of X G a15) C_l_mixed 8, PySem.W.mg_of X G a16, k16, F16.binds fun _ _ _ _ _ _ us hl => match us, hl with | [_, _, _, _], _ => rfl⟩
  have C_l_saying_row : Has l.prog w K mg base (20 * 1 + 2) "_law_saying_row" ["_law_saying_here"] (sp_l_saying_row (20) w K) := ⟨_, _, ok_l_saying_row F17 T (PySem.W.mg_of X G a17)   20, PySem.W.mg_of X G a17, k17, F17.binds fun _ _ _ _ _ _ us hl => match us, hl with | [_], _ => rfl⟩
  have C_l_sign : Has l.prog w K mg base 1 "_law_sign" ["_law_number"] (sp_l_sign w K) := ⟨_, _, ok_l_sign F18 T , PySem.W.mg_of X G a18, k18, F18.binds fun _ _ _ _ _ _ us hl => match us, hl with | [_], _ => rfl⟩
  have C_l_bent : Has l.prog w K mg base 2 "_law_bent" ["_law_text", "_law_number"] (sp_l_bent w K) := ⟨_, _, ok_l_bent F19 T C_l_sign, PySem.W.mg_of X G a19, k19, F19.binds fun _ _ _ _ _ _ us hl => match us, hl with | [_, _], _ => rfl⟩
  have C_l_parts : Has l.prog w K mg base 1 "_law_parts" ["_law_saying_here"] (sp_l_parts w K) := ⟨_, _, ok_l_parts F20 T , PySem.W.mg_of X G a20, k20, F20.binds fun _ _ _ _ _ _ us hl => match us, hl with | [_], _ => rfl⟩
  have C_l_deep : Has l.prog w K mg base (20 * 1 + 2) "_law_deep" ["_law_saying_here"] (sp_l_deep (20) w K) := ⟨_, _, ok_l_deep F21 T (PySem.W.mg_of X G a21)  C_l_parts 20, PySem.W.mg_of X G a21, k21, F21.binds fun _ _ _ _ _ _ us hl => match us, hl with | [_], _ => rfl⟩
  have C_l_good : Has l.prog w K mg base (20 * 1 + 2) "_law_good" ["_law_n", "_law_saying_here"] (sp_l_good (20) w K) := ⟨_, _, ok_l_good F22 T (PySem.W.mg_of X G a22)  C_l_parts 20, PySem.W.mg_of X G a22, k22, F22.binds fun _ _ _ _ _ _ us hl => match us, hl with | [_, _], _ => rfl⟩
  have C_l_many : Has l.prog w K mg base (20 * 1 + 2) "_law_many" ["_law_saying_here"] (sp_l_many (20) w K) := ⟨_, _, ok_l_many F23 T (PySem.W.mg_of X G a23)  C_l_parts 20, PySem.W.mg_of X G a23, k23, F23.binds fun _ _ _ _ _ _ us hl => match us, hl with | [_], _ => rfl⟩
  have C_l_read : Has l.prog w K mg base 62 "_law_read" ["_law_n", "_law_text"] (sp_l_read w K) := ⟨_, _, ok_l_read F24 T C_l_deep C_l_good C_l_many C_l_saying_row C_read_saying, PySem.W.mg_of X G a24, k24, F24.binds fun _ _ _ _ _ _ us hl => match us, hl with | [_, _], _ => rfl⟩
  have C_l_bound : Has l.prog w K mg base 1 "_law_bound" ["_law_n", "_law_number"] (sp_l_bound w K) := ⟨_, _, ok_l_bound F25 T , PySem.W.mg_of X G a25, k25, F25.binds fun _ _ _ _ _ _ us hl => match us, hl with | [_, _], _ => rfl⟩
  exact ok_law F26 T C_l_bent C_l_bound C_l_mixed C_l_read C_l_saying C_l_saying_row C_l_wheel
theorem walk {l : PySem.W.OpenLaw} {q : Program} {loose : List Str} {XP : (Str → Option Value) → Heap → Prop} {YP : World → Heap → Prop} {d : DefRec} {K : Params → PySem.W.Frag} (hn : l.most = some 63) (hdf : d.params.defaults = [])
    (hY : ∀ (w : World) (h : Heap), YP w h → (K w.params).In h)
    (F : ∀ (w : World) (mg : Str → Option Value) (fa : Addr) (h : Heap), (K w.params).In h → h.Ns mainGlobals mg → mg d.name = some (.ref fa) →
      ∃ fd : FuncData, (∀ (s : Shared) (u : Value), BindsTo s fd ⟨[u], []⟩ [("_law_script", u)]) ∧ ∀ base : Heap, (K w.params).In base → base.Ns mainGlobals mg → FnOk l.prog w (K w.params) mg base CX0 70 fa fd ["_law_script"] (sp_law w (K w.params))) :
    PySem.W.WalkO q loose XP YP l.row.toRowW d [] (fun f vs => PySem.call f vs) :=
  L2.walk_of (n := 63) (k := 70) (x := "_law_script") (CX := fun _ => CX0) (sp := fun w => sp_law w (K w.params)) hn (by decide) hdf ⟨rfl, by decide, by decide⟩ hY F (fun _ _ a ns hl _ hS => ⟨a, ns, rfl, hS, hl, fun _ => rfl⟩) fun _ _ _ _ _ z => z
end My
open PySem PySem.W PyProof.Rows
set_option maxRecDepth 100000 in
set_option maxHeartbeats 0 in
theorem PySem.Challenge.cw_tonemirror_k47_any_saying_text_holds : PySem.Challenge.rw_tonemirror_k47_any_saying_text.Holds := by
  w_on; o_law; k_head; (case hw => w_witness2)
  k_fill
  refine My.walk (l := PySem.Challenge.rw_tonemirror_k47_any_saying_text) rfl rfl (fun w h Y => PySem.W.kIn_of Y) ?F
  case F =>
    intro w mg fa h KX G hmg
    refine' My.all_mk KX G hmg ?a1 ?l1 ?c1 ?k1 ?a2 ?l2 ?c2 ?k2 ?a3 ?l3 ?c3 ?k3 ?a4 ?l4 ?c4 ?k4 ?a5 ?l5 ?c5 ?k5 ?a6 ?l6 ?c6 ?k6 ?a7 ?l7 ?c7 ?k7 ?a8 ?l8 ?c8 ?k8 ?a9 ?l9 ?c9 ?k9 ?a10 ?l10 ?c10 ?k10 ?a11 ?l11 ?c11 ?k11 ?a12 ?l12 ?c12 ?k12 ?a13 ?l13 ?c13 ?k13 ?a14 ?l14 ?c14 ?k14 ?a15 ?l15 ?c15 ?k15 ?a16 ?l16 ?c16 ?k16 ?a17 ?l17 ?c17 ?k17 ?a18 ?l18 ?c18 ?k18 ?a19 ?l19 ?c19 ?k19 ?a20 ?l20 ?c20 ?k20 ?a21 ?l21 ?c21 ?k21 ?a22 ?l22 ?c22 ?k22 ?a23 ?l23 ?c23 ?k23 ?a24 ?l24 ?c24 ?k24 ?a25 ?l25 ?c25 ?k25 ?a26 ?l26 ?c26 ?k26 ?z_len ?z_max ?z_range ?z_list ?z_tuple ?z_str ?z_isinstance ?z_ValueError ?z_int ?z_bool ?z_sum ?z_all ?g1ToneError ?g1NoText ?g1NoHalf ?g1NoLeading ?g1NoRow ?g1Unknown ?g2NoText ?g3NoText ?g4NoText ?g5NoText ?g6NoText ?g7NoText ?g8NoText ?g9NoText ?h1NoText ?h2NoText ?h3NoText ?h4NoText ?h5NoText ?g1FIGURES ?g1DEEPEST ?g1MOST
    (case a1 => k_is); (case l1 => k_is); (case c1 => k_is); (case k1 => k_is)
    (case a2 => k_is); (case l2 => k_is); (case c2 => k_is); (case k2 => k_is)
    (case a3 => k_is); (case l3 => k_is); (case c3 => k_is); (case k3 => k_is)
    (case a4 => k_is); (case l4 => k_is); (case c4 => k_is); (case k4 => k_is)
    (case a5 => k_is); (case l5 => k_is); (case c5 => k_is); (case k5 => k_is)
    (case a6 => k_is); (case l6 => k_is); (case c6 => k_is); (case k6 => k_is)
    (case a7 => k_is); (case l7 => k_is); (case c7 => k_is); (case k7 => k_is)
    (case a8 => k_is); (case l8 => k_is); (case c8 => k_is); (case k8 => k_is)
    (case a9 => k_is); (case l9 => k_is); (case c9 => k_is); (case k9 => k_is)
    (case a10 => k_is); (case l10 => k_is); (case c10 => k_is); (case k10 => k_is)
    (case a11 => k_is); (case l11 => k_is); (case c11 => k_is); (case k11 => k_is)
    (case a12 => k_is); (case l12 => k_is); (case c12 => k_is); (case k12 => k_is)
    (case a13 => k_is); (case l13 => k_is); (case c13 => k_is); (case k13 => k_is)
    (case a14 => k_is); (case l14 => k_is); (case c14 => k_is); (case k14 => k_is)
    (case a15 => k_is); (case l15 => k_is); (case c15 => k_is); (case k15 => k_is)
    (case a16 => k_is); (case l16 => k_is); (case c16 => k_is); (case k16 => k_is)
    (case a17 => k_is); (case l17 => k_is); (case c17 => k_is); (case k17 => k_is)
    (case a18 => k_is); (case l18 => k_is); (case c18 => k_is); (case k18 => k_is)
    (case a19 => k_is); (case l19 => k_is); (case c19 => k_is); (case k19 => k_is)
    (case a20 => k_is); (case l20 => k_is); (case c20 => k_is); (case k20 => k_is)
    (case a21 => k_is); (case l21 => k_is); (case c21 => k_is); (case k21 => k_is)
    (case a22 => k_is); (case l22 => k_is); (case c22 => k_is); (case k22 => k_is)
    (case a23 => k_is); (case l23 => k_is); (case c23 => k_is); (case k23 => k_is)
    (case a24 => k_is); (case l24 => k_is); (case c24 => k_is); (case k24 => k_is)
    (case a25 => k_is); (case l25 => k_is); (case c25 => k_is); (case k25 => k_is)
    (case a26 => k_is); (case l26 => k_is); (case c26 => k_is); (case k26 => k_is)
    (case z_len => k_is)
    (case z_max => k_is)
    (case z_range => k_is)
    (case z_list => k_is)
    (case z_tuple => k_is)
    (case z_str => k_is)
    (case z_isinstance => k_is)
    (case z_ValueError => k_is)
    (case z_int => k_is)
    (case z_bool => k_is)
    (case z_sum => k_is)
    (case z_all => k_is)
    (case g1ToneError => k_is)
    (case g1NoText => k_is)
    (case g1NoHalf => k_is)
    (case g1NoLeading => k_is)
    (case g1NoRow => k_is)
    (case g1Unknown => k_is)
    (case g2NoText => k_exc)
    (case g3NoText => kts_exm)
    (case g4NoText => k_is)
    (case g5NoText => k_is)
    (case g6NoText => k_is)
    (case g7NoText => k_is)
    (case g8NoText => k_is)
    (case g9NoText => k_is)
    (case h1NoText => k_is)
    (case h2NoText => k_is)
    (case h3NoText => kit_is)
    (case h4NoText => kit_is)
    (case h5NoText => kit_is)
    (case g1FIGURES => k_is)
    (case g1DEEPEST => k_is)
    (case g1MOST => k_is)
