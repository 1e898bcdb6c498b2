import PyProof.Rows.All
import Wide.All
import OpenK.AllK
import Wide.FinOn
import Lean
import PyProof.EqAt
import PyProof.EqKinds
import PyProof.TupleCall
import PyProof.Rows.SetFrom
import PyProof.ListRange
import PyProof.Rows.SortWalk
import PyProof.TupleOfStr
import PyProof.CollectStr
import KE.KRevIter
import PyProof.EnumMake
import PyProof.Rows.EnumRows
import PyProof.Rows.SumAny
import PyProof.Draws
import KE.KSortTup
import KE.KLcPair
import PyProof.Rows.TupDisplay
import PyProof.Rows.TupTab
import PyProof.ZipIter
import PyProof.CollectWalk
import PyProof.Rows.CallKwBuiltin
import PyProof.DictWalks
import PyProof.FString5
import PyProof.AttrMiss
import KE.KDictOf
import PyProof.DictItems
import PyProof.MeetsIn
import KE.KPairComp
import OpenK.KOwn
import KE.KTryMore
import PyProof.RulesAs
import KE.KIsAll
import PyProof.ExcArgsOwn
import KE.RegKTryMore
import KE.RegKIsAll
import PyProof.FString5
import PyProof.Rows.StrJoinMade
import PyProof.DictTable
import PyProof.FitsReplace
import PyProof.DictUpdate
import PyProof.MinMaxWalk
import PyProof.Rows.StrKeys3
import PyProof.StrCalls2
import PyProof.StrLawsTight
import PyProof.StrLawsChain
import PyProof.StrLawsJoin
import PyProof.Rows.RuleN_abs
import PyProof.Rows.SeqGen
import PyProof.StrOps2
import PyProof.StrLawsRepr
import PyProof.StrLawsIn
import PyProof.MinMaxWalk
import PyProof.Rows.CallKwBuiltin
import PyProof.NeKinds
import PySem.Challenge.RW_tonemirror_k26_rules
set_option Elab.async false
set_option linter.all false
set_option maxRecDepth 100000
namespace L2
open PySem PySem.Spec PyProof.Rows

/-- a key: an int or a str -/
abbrev Key := Sum Int Str
def keyIs : Key → Value → Bool
  | .inl k, v => Value.isInt k v
  | .inr x, v => Value.isStrOf x v
def keyH (w : World) : Key → Int
  | .inl k => hashInt k
  | .inr x => hashStr w x
theorem keyIs_shape : ∀ {k : Key} {v : Value}, keyIs k v = true → (∃ i t, k = Sum.inl i ∧ v = Value.int i t) ∨ (∃ x t, k = Sum.inr x ∧ v = Value.str x t)
  | .inl i, v, h => by
    obtain ⟨t, e⟩ := Value.isInt_shape (k := i) (v := v) h
    exact .inl ⟨i, t, rfl, e⟩
  | .inr x, v, h => by
    obtain ⟨t, e⟩ := Value.isStrOf_shape (x := x) (v := v) h
    exact .inr ⟨x, t, rfl, e⟩
theorem keyIs_int (i : Int) (t : Tok) : keyIs (.inl i) (.int i t) = true := by simp [keyIs, Value.isInt]
theorem keyIs_str (x : Str) (t : Tok) : keyIs (.inr x) (.str x t) = true := by simp [keyIs, Value.isStrOf]
theorem key_ll (a b : Int) : decide ((Sum.inl a : Key) = Sum.inl b) = (a == b) := by
  by_cases e : a = b
  · subst e; simp
  · have h : ¬ (Sum.inl a : Key) = Sum.inl b := fun q => e (Sum.inl.inj q)
    rw [decide_eq_false h]
    exact (beq_eq_false_iff_ne.mpr e).symm
theorem key_rr (a b : Str) : decide ((Sum.inr a : Key) = Sum.inr b) = decide (a = b) := by
  by_cases e : a = b
  · subst e; simp
  · have h : ¬ (Sum.inr a : Key) = Sum.inr b := fun q => e (Sum.inr.inj q)
    rw [decide_eq_false h, decide_eq_false e]
theorem key_lr (a : Int) (b : Str) : decide ((Sum.inl a : Key) = Sum.inr b) = false := decide_eq_false (fun q => nomatch q)
theorem key_rl (a : Str) (b : Int) : decide ((Sum.inr a : Key) = Sum.inl b) = false := decide_eq_false (fun q => nomatch q)

def mixKind (prog : Program) (w : World) : PySem.KeyKind prog w Key where
  is := keyIs
  hash := keyH w
  inj := fun v a b ha hb => by
    rcases keyIs_shape ha with ⟨i, t, rfl, rfl⟩ | ⟨x, t, rfl, rfl⟩
    · rcases keyIs_shape hb with ⟨j, u, rfl, e⟩ | ⟨y, u, rfl, e⟩
      · injection e with e1 _; rw [e1]
      · exact nomatch e
    · rcases keyIs_shape hb with ⟨j, u, rfl, e⟩ | ⟨y, u, rfl, e⟩
      · exact nomatch e
      · injection e with e1 _; rw [e1]
  byValue := fun k v h => by
    rcases keyIs_shape h with ⟨i, t, rfl, rfl⟩ | ⟨x, t, rfl, rfl⟩ <;> rfl
  pyHash := fun hv h => by
    rcases keyIs_shape hv with ⟨i, t, rfl, rfl⟩ | ⟨x, t, rfl, rfl⟩
    · exact wpAny_pyHash_int h
    · exact wpAny_pyHash_str h
  eqBool := fun hu hv h => by
    rcases keyIs_shape hu with ⟨i, t, rfl, rfl⟩ | ⟨x, t, rfl, rfl⟩
    · rcases keyIs_shape hv with ⟨j, u, rfl, rfl⟩ | ⟨y, u, rfl, rfl⟩
      · rw [key_ll] at h; exact wpAny_eqBool_int h
      · rw [key_lr] at h; exact SeqAt.EqAt.int_str i t y u _ _ _ _ h
    · rcases keyIs_shape hv with ⟨j, u, rfl, rfl⟩ | ⟨y, u, rfl, rfl⟩
      · rw [key_rl] at h; exact SeqAt.EqAt.str_int x t j u _ _ _ _ h
      · rw [key_rr] at h; exact wpAny_eqBool_str h
  «strs» := fun k x t v h => by
    rcases keyIs_shape h with ⟨i, u, rfl, e⟩ | ⟨y, u, rfl, e⟩
    · exact nomatch e
    · injection e with e1 _
      subst e1
      cases v <;> rfl

theorem mixKind_int (prog : Program) (w : World) (i : Int) (t : Tok) : (mixKind prog w).is (.inl i) (.int i t) = true := keyIs_int i t
theorem mixKind_str (prog : Program) (w : World) (x : Str) (t : Tok) : (mixKind prog w).is (.inr x) (.str x t) = true := keyIs_str x t
end L2

namespace L2
open PySem PySem.Spec PyProof.Rows

/-- a value, without the heap -/
inductive V where
  | non | bl (b : Bool) | int (i : Int) | str (x : Str) | byt (b : Array UInt8) | flt (b : UInt64) | ref (a : Addr) | ty (n : String)
  deriving DecidableEq

def RelV : V → Value → Prop
  | .non, u => u = Value.none
  | .bl b, u => u = Value.bool b
  | .int i, u => ∃ t, u = Value.int i t
  | .str x, u => ∃ t, u = Value.str x t
  | .byt b, u => ∃ t, u = Value.bytes b t
  | .flt b, u => ∃ t, u = Value.float b t
  | .ref a, u => u = Value.ref a
  | .ty n, u => u = Value.type n

abbrev Vals : List V → List Value → Prop := Paired RelV
theorem Vals.length {xs : List V} {us : List Value} (r : Vals xs us) : xs.length = us.length := Paired.length r
theorem Vals.get : ∀ {xs : List V} {us : List Value} {i : Nat} {x : V}, Vals xs us → xs[i]? = some x → ∃ u, us[i]? = some u ∧ RelV x u
  | _, _, _, _, .nil, e => by simp at e
  | _, _, 0, _, .cons r _, e => by simp at e; subst e; exact ⟨_, rfl, r⟩
  | _, _, i + 1, x, .cons _ t, e => by
    obtain ⟨u, h1, h2⟩ := Vals.get (i := i) (x := x) t (by simpa using e)
    exact ⟨u, by simpa using h1, h2⟩
theorem Vals.append : ∀ {xs ys : List V} {us ws : List Value}, Vals xs us → Vals ys ws → Vals (xs ++ ys) (us ++ ws)
  | _, _, _, _, .nil, s => s
  | _, _, _, _, .cons r t, s => .cons r (Vals.append t s)
def RelO : Option V → Option Value → Prop
  | some v, some u => RelV v u
  | none, none => True
  | _, _ => False
def KV {κ : Type} : List (κ × V) → List (κ × Value) → Prop := Paired fun (p : κ × V) (q : κ × Value) => p.1 = q.1 ∧ RelV p.2 q.2

/-- a key of a dict (00_mix): an int or a text -/
def kV : Key → V
  | .inl i => .int i
  | .inr x => .str x

/-- what stands at a tracked address -/
inductive HO where
  /-- a list -/
  | lst (xs : List V)
  /-- a tuple (never changes) -/
  | tup (xs : List V)
  /-- a dict whose keys are ints and texts; one whose keys are tuples of ints and texts (the empty one is both) -/
  | dK (kvs : List (Key × V)) | dT (kvs : List (List Key × V))
  /-- a set of ints: its members, its size -/
  | set (S : Int → Bool) (n : Nat)
  /-- an instance of the class at C, its dict at dx, its attributes -/
  | ins (C dx : Addr) (fs : List (Str × V))
  /-- the dict of the instance at x -/
  | own (x : Addr)
  /-- the dict of an exception -/
  | xd (fs : List (Str × V))
  /-- a bound method, f of x -/
  | met (f x : Addr)
  /-- a range object lo, lo + 1, .. below hi -/
  | rng (lo hi : Int)
  /-- a thing that is known to the object (the script; a dict while a loop walks it): read, never written while it is so -/
  | frz (o : Obj) (u : HO)
  /-- a code object's table -/
  | tbl (ps : Array Value)
  /-- any other thing, by what is true of its one object (a def of one's own: SetO a S n := HO.ext fun h => ..) -/
  | ext (φ : Heap → Prop)

abbrev Hp := Addr → Option HO
def upd (H : Hp) (a : Addr) (o : HO) : Hp := fun b => if b = a then some o else H b
theorem upd_same {H : Hp} {a : Addr} {o : HO} : upd H a o a = some o := by unfold upd; rw [if_pos rfl]
theorem upd_ne {H : Hp} {a b : Addr} {o : HO} (h : b ≠ a) : upd H a o b = H b := by unfold upd; rw [if_neg h]
theorem ne_of_none {H : Hp} {a b : Addr} {o : HO} (h : H a = some o) (h' : H b = none) : a ≠ b := by
  intro e; subst e; rw [h] at h'; cases h'

section
variable (P : Program) (w : World)
def ObjOk (H : Hp) (h : Heap) (a : Addr) : HO → Prop
  | .lst xs => xs.length ≤ sizeLine ∧ ∃ (its : List Value) (n : Nat), Vals xs its ∧ h.get? a = some { cls := .type "list", data := .seq its.toArray n }
  | .tup xs => xs.length ≤ sizeLine ∧ ∃ its : List Value, Vals xs its ∧ IsTup h a its.toArray
  | .dK kvs => kvs.length ≤ sizeLine ∧ (a == sysModules) = false ∧ ∃ vs, KV kvs vs ∧ h.DictOf (mixKind P w) a vs
  | .dT kvs => kvs.length ≤ sizeLine ∧ (a == sysModules) = false ∧ ∃ xs : List (List Key × Addr × Value),
      Paired (fun (p : List Key × V) (q : List Key × Addr × Value) => p.1 = q.1 ∧ H q.2.1 = some (.tup (p.1.map kV)) ∧ RelV p.2 q.2.2) kvs xs ∧
      ∃ o es ep, h.get? a = some o ∧ o.ExactDict ∧ o.data = .dict es ep ∧ es.toList = xs.map (entryOfKey (tupleKind (mixKind P w))) ∧ (xs.map (·.1)).Nodup
  | .set S n => h.SetOf (intKind P w) a S n
  | .ins C dx fs => H dx = some (.own a) ∧ fs.length ≤ 1000 ∧ dx ≠ a ∧ h.get? a = some (PySem.W.instObj C dx) ∧
      ∃ mA, h.Ns1 dx mA ∧ (∀ f, RelO (fs.lookup f) (mA f)) ∧ PySem.Within mA (fs.map (·.1))
  | .own _ => ∃ o, h.get? a = some o
  | .xd fs => ∃ mA, h.Ns1 a mA ∧ ∀ f, RelO (fs.lookup f) (mA f)
  | .rng lo hi => ∃ t u v, h.get? a = some { cls := .type "range", data := .fields #[.int lo t, .int hi u, .int 1 v] }
  | .frz o u => h.get? a = some o ∧ ObjOk H h a u
  | .tbl ps => h.get? a = some { cls := .none, data := .fields ps }
  | .met f x => h.get? a = some (PySem.W.methodObj (.ref f) (.ref x))
  | .ext φ => φ h ∧ (∃ o, h.get? a = some o) ∧ ∀ h1 h2 : Heap, φ h1 → (∀ o, h1.get? a = some o → h2.get? a = some o) → φ h2
/-- the abstract heap is held -/
def HOk (H : Hp) (h : Heap) : Prop := ∀ a o, H a = some o → ObjOk P w H h a o
end

section
variable {P : Program} {w : World} {H H' : Hp} {h h' : Heap} {a : Addr} {o : HO}
theorem ObjOk.lt (x : ObjOk P w H h a o) : a < h.objs.size := by
  cases o with
  | lst xs => obtain ⟨_, _, _, _, e⟩ := x; exact Heap.lt_size e
  | tup xs => obtain ⟨_, _, _, p⟩ := x; exact p.lt
  | dK kvs => obtain ⟨_, _, _, _, o, _, _, e, _⟩ := x; exact Heap.lt_size e
  | dT kvs => obtain ⟨_, _, _, _, o, _, _, e, _⟩ := x; exact Heap.lt_size e
  | set S n => obtain ⟨o, _, _, _, e, _⟩ := x; exact Heap.lt_size e
  | ins C dx fs => obtain ⟨_, _, _, e, _⟩ := x; exact Heap.lt_size e
  | own y => obtain ⟨_, e⟩ := x; exact Heap.lt_size e
  | xd fs => obtain ⟨_, ⟨_, _, _, e, _⟩, _⟩ := x; exact Heap.lt_size e
  | rng lo hi => obtain ⟨_, _, _, e⟩ := x; exact Heap.lt_size e
  | frz ob u => obtain ⟨e, _⟩ := x; exact Heap.lt_size e
  | tbl ps => exact Heap.lt_size (show h.get? a = some _ from x)
  | met f y => exact Heap.lt_size (show h.get? a = some _ from x)
  | ext φ => obtain ⟨_, ⟨_, e⟩, _⟩ := x; exact Heap.lt_size e
theorem Paired.mapP {α β : Type} {F G : α → β → Prop} : ∀ {l₁ : List α} {l₂ : List β}, Paired F l₁ l₂ → (∀ a b, F a b → G a b) → Paired G l₁ l₂
  | _, _, .nil, _ => .nil
  | _, _, .cons r t, f => .cons (f _ _ r) (Paired.mapP t f)
/-- what an object's description leans on: its own object, its own dict, the tuples -/
theorem ObjOk.stay (x : ObjOk P w H h a o) (k : ∀ b u, (b = a ∨ H b = some (.own a)) → h.get? b = some u → h'.get? b = some u)
    (ho : ∀ b, H b = some (.own a) → H' b = some (.own a)) (ht : ∀ b xs, H b = some (.tup xs) → H' b = some (.tup xs)) : ObjOk P w H' h' a o := by
  induction o with
  | lst xs => obtain ⟨z, its, n, r, e⟩ := x; exact ⟨z, its, n, r, k _ _ (.inl rfl) e⟩
  | tup xs => obtain ⟨z, its, r, ob, e, c⟩ := x; exact ⟨z, its, r, ob, k _ _ (.inl rfl) e, c⟩
  | dK kvs => obtain ⟨z, y, vs, r, ob, es, ep, e, c⟩ := x; exact ⟨z, y, vs, r, ob, es, ep, k _ _ (.inl rfl) e, c⟩
  | dT kvs =>
    obtain ⟨z, y, xs, r, ob, es, ep, e, c⟩ := x
    exact ⟨z, y, xs, Paired.mapP r fun p q z => ⟨z.1, ht _ _ z.2.1, z.2.2⟩, ob, es, ep, k _ _ (.inl rfl) e, c⟩
  | set S n => obtain ⟨ob, es, ep, t, e, c⟩ := x; exact ⟨ob, es, ep, t, k _ _ (.inl rfl) e, c⟩
  | ins C dx fs =>
    obtain ⟨d, z, ne, e, mA, ⟨od, es, ep, e2, c⟩, r⟩ := x
    exact ⟨ho _ d, z, ne, k _ _ (.inl rfl) e, mA, ⟨od, es, ep, k _ _ (.inr d) e2, c⟩, r⟩
  | own y => obtain ⟨ob, e⟩ := x; exact ⟨ob, k _ _ (.inl rfl) e⟩
  | xd fs => obtain ⟨mA, ⟨od, es, ep, e, c⟩, r⟩ := x; exact ⟨mA, ⟨od, es, ep, k _ _ (.inl rfl) e, c⟩, r⟩
  | rng lo hi => obtain ⟨t, u, v, e⟩ := x; exact ⟨t, u, v, k _ _ (.inl rfl) e⟩
  | frz ob u ih => obtain ⟨e, q⟩ := x; exact ⟨k _ _ (.inl rfl) e, ih q⟩
  | tbl ps =>
    have e : h.get? a = some { cls := .none, data := .fields ps } := x
    show h'.get? a = some { cls := .none, data := .fields ps }
    exact k a _ (.inl rfl) e
  | met f y =>
    have e : h.get? a = some (PySem.W.methodObj (.ref f) (.ref y)) := x
    show h'.get? a = some (PySem.W.methodObj (.ref f) (.ref y))
    exact k a _ (.inl rfl) e
  | ext φ => obtain ⟨p, ⟨o, e⟩, st⟩ := x; exact ⟨st _ _ p fun o q => k _ _ (.inl rfl) q, ⟨o, k _ _ (.inl rfl) e⟩, st⟩
theorem HOk.lt (x : HOk P w H h) (e : H a = some o) : a < h.objs.size := (x a o e).lt
theorem HOk.fresh (x : HOk P w H h) (e : h.objs.size ≤ a) : H a = none := by
  cases q : H a with
  | none => rfl
  | some u => exact absurd (Nat.lt_of_lt_of_le (x.lt q) e) (Nat.lt_irrefl _)
/-- every object of the heap is kept -/
theorem HOk.kept (x : HOk P w H h) (k : ∀ b u, h.get? b = some u → h'.get? b = some u) : HOk P w H h' := fun a o e =>
  (x a o e).stay (fun b u _ q => k b u q) (fun _ q => q) fun _ _ q => q
/-- a new object is laid and tracked -/
theorem HOk.laid (x : HOk P w H h) (k : ∀ b u, h.get? b = some u → h'.get? b = some u) (hp : h.objs.size ≤ a) (new : ObjOk P w (upd H a o) h' a o) : HOk P w (upd H a o) h' := fun b u e => by
  have hn := x.fresh hp
  by_cases hb : b = a
  · subst hb; rw [upd_same] at e; cases e; exact new
  · rw [upd_ne hb] at e
    exact (x b u e).stay (fun c v _ q => k c v q) (fun c q => by rw [upd_ne (ne_of_none q hn)]; exact q) fun c xs q => by rw [upd_ne (ne_of_none q hn)]; exact q
end

/-- what may be read as u: it is u, or a known u -/
def Rd (H : Hp) (a : Addr) (u : HO) : Prop := H a = some u ∨ ∃ o, H a = some (.frz o u)
theorem Rd.ok {P : Program} {w : World} {H : Hp} {h : Heap} {a : Addr} {u : HO} (r : Rd H a u) (x : HOk P w H h) : ObjOk P w H h a u := by
  rcases r with r | ⟨o, r⟩
  · exact x a u r
  · obtain ⟨_, q⟩ := x a _ r
    exact q
/-- what may be written -/
def Mut : Option HO → Prop
  | some (.lst _) => True
  | some (.dK _) => True
  | some (.dT _) => True
  | some (.set _ _) => True
  | some (.ins _ _ _) => True
  | some (.ext _) => True
  | _ => False
section
variable {P : Program} {w : World} {H : Hp} {h h' : Heap} {x e : Addr} {o' : HO}
/-- the object at e is changed: x itself, or the dict of the instance x -/
theorem HOk.write (ok : HOk P w H h) (mu : Mut (H x)) (he : e = x ∨ H e = some (.own x)) (k : ∀ b u, b ≠ e → h.get? b = some u → h'.get? b = some u) (heo : ∃ u, h'.get? e = some u)
    (new : ObjOk P w (upd H x o') h' x o') : HOk P w (upd H x o') h' := fun b u q => by
  have nown : ∀ c y, H c = some (.own y) → c ≠ x := fun c y r z => by subst z; rw [r] at mu; exact mu
  have ntup : ∀ c xs, H c = some (.tup xs) → c ≠ x := fun c xs r z => by subst z; rw [r] at mu; exact mu
  by_cases hb : b = x
  · subst hb; rw [upd_same] at q; cases q; exact new
  · rw [upd_ne hb] at q
    by_cases hbe : b = e
    · have q' : H b = some (.own x) := by
        rcases he with z | z
        · exact absurd (hbe.trans z) hb
        · rw [hbe]; exact z
      rw [q] at q'; cases q'
      obtain ⟨v, hv⟩ := heo
      exact ⟨v, by rw [hbe]; exact hv⟩
    · refine (ok b u q).stay (fun c v hc r => k c v ?_ r) (fun c r => by rw [upd_ne (nown c b r)]; exact r) fun c xs r => by rw [upd_ne (ntup c xs r)]; exact r
      rcases hc with rfl | hc
      · exact hbe
      · rintro rfl
        rcases he with z | z
        · exact nown c b hc z
        · rw [hc] at z; cases z; exact hb rfl
end

structure Un (fs ex : List Addr) (H H' : Hp) (h h' : Heap) : Prop where
  keep : ∀ b o, h.get? b = some o → H b = none → b ∉ fs → b ∉ ex → h'.get? b = some o
  slot : ∀ b o, h.get? b = some o → H b = none → b ∈ fs → b ∉ ex → ∃ sl, h'.get? b = some { o with slots := sl }
  free : ∀ b o, h.get? b = some o → H b = none → b ∉ ex → H' b = none
  there : ∀ b o, h.get? b = some o → b ∉ ex → ∃ o', h'.get? b = some o'
  tups : ∀ b xs, H b = some (.tup xs) → H' b = some (.tup xs)
  frzs : ∀ b o u, H b = some (.frz o u) → H' b = some (.frz o u)
  tbls : ∀ b ps, H b = some (.tbl ps) → ∃ more, H' b = some (.tbl (ps ++ more))
section
variable {fs fs' ex ex' : List Addr} {H H1 H2 : Hp} {h h1 h2 h' : Heap} {a x e : Addr} {o : HO}
theorem Un.any (u : Un fs ex H H1 h h1) {b : Addr} {ob : Obj} (q : h.get? b = some ob) (n : H b = none) (hx : b ∉ ex) : ∃ sl, h1.get? b = some { ob with slots := sl } := by
  by_cases hb : b ∈ fs
  · exact u.slot b ob q n hb hx
  · exact ⟨ob.slots, u.keep b ob q n hb hx⟩
theorem Un.kept (k : ∀ b u, h.get? b = some u → h'.get? b = some u) : Un fs ex H H h h' :=
  ⟨fun b ob q _ _ _ => k b ob q, fun b ob q _ _ _ => ⟨ob.slots, k b ob q⟩, fun _ _ _ n _ => n, fun b ob q _ => ⟨ob, k b ob q⟩, fun _ _ q => q, fun _ _ _ q => q, fun _ ps q => ⟨#[], by rw [q]; simp⟩⟩
theorem Un.refl : Un fs ex H H h h := Un.kept fun _ _ q => q
theorem Un.laid (k : ∀ b u, h.get? b = some u → h'.get? b = some u) (hp : h.objs.size ≤ a) (hn : H a = none) : Un fs ex H (upd H a o) h h' where
  keep := fun b u q _ _ _ => k b u q
  slot := fun b u q _ _ _ => ⟨u.slots, k b u q⟩
  free := fun b u q n _ => by rw [upd_ne (Nat.ne_of_lt (Nat.lt_of_lt_of_le (Heap.lt_size q) hp))]; exact n
  there := fun b u q _ => ⟨u, k b u q⟩
  tups := fun b xs q => by rw [upd_ne (ne_of_none q hn)]; exact q
  frzs := fun b u xs q => by rw [upd_ne (ne_of_none q hn)]; exact q
  tbls := fun b ps q => ⟨#[], by rw [upd_ne (ne_of_none q hn), q]; simp⟩
theorem Un.write (mu : Mut (H x)) (he : e = x ∨ H e = some (.own x)) (k : ∀ b u, b ≠ e → h.get? b = some u → h'.get? b = some u) (heo : ∃ u, h'.get? e = some u) : Un fs ex H (upd H x o) h h' := by
  have hx : ∀ b, H b = none → b ≠ x := fun b n z => by subst z; rw [n] at mu; exact mu
  have hb : ∀ b, H b = none → b ≠ e := fun b n z => by
    subst z
    rcases he with r | r
    · exact hx b n r
    · rw [n] at r; cases r
  have hm : ∀ b u, H b = some u → ¬ Mut (some u) → b ≠ x := fun b u q nm z => by subst z; rw [q] at mu; exact nm mu
  refine ⟨fun b u q n _ _ => k b u (hb b n) q, fun b u q n _ _ => ⟨u.slots, k b u (hb b n) q⟩, fun b u q n _ => by rw [upd_ne (hx b n)]; exact n, fun b u q _ => ?_,
    fun b xs q => by rw [upd_ne (hm b _ q fun z => z)]; exact q, fun b u xs q => by rw [upd_ne (hm b _ q fun z => z)]; exact q, fun b ps q => ⟨#[], by rw [upd_ne (hm b _ q fun z => z), q]; simp⟩⟩
  by_cases hbe : b = e
  · subst hbe; exact heo
  · exact ⟨u, k b u hbe q⟩
end

def trk (h : Heap) (H : Hp) : List Addr := (List.range h.objs.size).filter fun a => (H a).isSome
def hidT (h : Heap) (H : Hp) : Heap := PySem.W.hideAll h (trk h H)
theorem hidT_size (h : Heap) (H : Hp) : (hidT h H).objs.size = h.objs.size := PySem.W.hideAll_size _ _
theorem hidT_get {h : Heap} {H : Hp} {b : Addr} {o : Obj} (e : h.get? b = some o) (n : H b = none) : (hidT h H).get? b = some o :=
  PySem.W.hideAll_get _ e fun hm => by
    have q : (H b).isSome = true := (List.mem_filter.mp hm).2
    rw [n] at q; simp at q
theorem of_hidT {h : Heap} {H : Hp} {b : Addr} {o : Obj} (e : (hidT h H).get? b = some o) : h.get? b = some o ∧ H b = none := by
  have e' : h.get? b = some o := PySem.W.of_hideAll (trk h H) e
  refine ⟨e', ?_⟩
  cases q : H b with
  | none => rfl
  | some x =>
    have hm : b ∈ trk h H := List.mem_filter.mpr ⟨List.mem_range.mpr (Heap.lt_size e'), by simp [q]⟩
    have z : (hidT h H).get? b = none := PySem.W.hideAll_none (trk h H) hm
    rw [z] at e; cases e

end L2

namespace L2
open PySem PySem.Spec PyProof.Rows

/-- the module's facts, over the base: the heap at the law's entry without what is tracked there -/
structure Mod (K : PySem.W.Frag) (mg : Str → Option Value) (base : Heap) : Prop where
  kin : K.In base
  glob : base.Ns mainGlobals mg
  blt : ∃ mb, base.Ns builtinsNs mb ∧ ∀ x : Str, x ≠ "__name__" → mb x = bootBuiltins x
  nolimit : base.NoLimit

/-- the context: a def's body (or a comprehension's block) running. base: fixed through the whole law; s₀, H₀: the entry; outer: the frames whose slots others may change (a def's callers); stack: all frames that run;
   ex: iterators that were made ahead of the entry and are walked here (a comprehension's); fn: the names whose cells were made at the entry (a def: all; a comprehension's block: its own); calm: not within an except suite; pn: pins that every state bears; xe: what is wanted of an exception that leaves the code -/
structure Cx where
  prog : Program
  w : World
  K : PySem.W.Frag
  mg : Str → Option Value
  base : Heap
  A : Around
  N : List Str
  s₀ : Shared
  H₀ : Hp
  env : Env
  outer : List Env
  stack : List Env
  ex : List Addr
  fn : Str → Bool
  calm : Bool
  pn : List (Addr × Obj)
  xe : Value → Shared → Prop
/-- the callers' frames -/
def frs (l : List Env) : List Addr := l.filterMap (·.frame)
abbrev Cx.fs (X : Cx) : List Addr := frs X.outer

def Vis (sc : Scope) (x : Str) : Prop := sc.names.lookup x = some .local ∨ sc.names.lookup x = some .cell ∨ sc.names.lookup x = some .free
def Loc (sc : Scope) (x : Str) : Prop := sc.names.lookup x = some .local ∨ sc.names.lookup x = some .cell
def Look (env : Env) (h : Heap) (m : Str → Option Value) (x : Str) (u : Value) : Prop :=
  (env.kindOf x = some .local ∧ m x = some u) ∨ ((env.kindOf x = some .cell ∨ env.kindOf x = some .free) ∧ ∃ c, env.cells.lookup x = some c ∧ h.IsCell c (some u))

structure Cx.Ok (X : Cx) : Prop where
  mod : Mod X.K X.mg X.base
  kind : X.env.scope.kind = .function
  glob : X.env.globals = mainGlobals
  blt : X.env.builtins = builtinsNs
  above : X.s₀.heap.objs.size ≤ X.env.locals
  inj : ∀ x y c, X.env.cells.lookup x = some c → X.env.cells.lookup y = some c → x = y
  has : ∀ x, (X.env.kindOf x = some .cell ∨ X.env.kindOf x = some .free) → ∃ c, X.env.cells.lookup x = some c
  cab : ∀ x c, X.fn x = true → X.env.cells.lookup x = some c → X.s₀.heap.objs.size ≤ c
  hd : X.calm = true → X.A.handled = none
  frames : X.A.frames = some X.stack
  stk : X.stack = X.outer ∨ (X.stack = X.env :: X.outer ∧ X.env.frame = some X.env.locals)
  exf : ∀ b ∈ X.ex, b ≠ X.env.locals ∧ ∀ x c, X.env.cells.lookup x = some c → c ≠ b
  bs : ∀ b o, X.base.get? b = some o → X.s₀.heap.get? b = some o ∧ X.H₀ b = none
  bsz : X.base.objs.size ≤ X.s₀.heap.objs.size
  noex : ∀ b o, X.base.get? b = some o → b ∉ X.ex
  exfs : ∀ b ∈ X.ex, b ∉ X.fs
  funs : X.s₀.heap.FunFrames X.base X.outer
  frf : ∀ b ∈ X.fs, X.H₀ b = none

structure Inv (X : Cx) (pins : List (Addr × Obj)) (σ : List (Option V)) (H : Hp) (s : Shared) : Prop where
  ok : X.Ok
  os : s.os = X.s₀.os
  bare : AllBare s.gens
  base : Un X.fs X.ex X.H₀ H X.s₀.heap s.heap
  loc : ∃ m, s.heap.Ns X.env.locals m ∧ ∀ (i : Nat) (x : Str) (v : V), X.N[i]? = some x → σ[i]? = some (some v) → Vis X.env.scope x → ∃ u, RelV v u ∧ Look X.env s.heap m x u
  cell : ∀ x c, X.env.cells.lookup x = some c → ∃ v, s.heap.IsCell c v
  free : H X.env.locals = none
  freeC : ∀ x c, X.env.cells.lookup x = some c → H c = none
  pin : ∀ p ∈ X.pn ++ pins, s.heap.get? p.1 = some p.2 ∧ H p.1 = none ∧ p.1 ≠ X.env.locals ∧ p.1 ∉ X.fs ∧ ∀ v, p.2.data ≠ .cell v
  hok : HOk X.prog X.w H s.heap
  len : σ.length = X.N.length

section
variable {X : Cx} {pins : List (Addr × Obj)} {σ : List (Option V)} {H H' : Hp} {s : Shared} {h' : Heap}

theorem Cx.Ok.nofr (ok : X.Ok) {b : Addr} {o : Obj} (e : X.base.get? b = some o) : b ∉ X.fs := fun hb => by
  have := (ok.funs.mem hb).1
  rw [e] at this; cases this
theorem Inv.bs (I : Inv X pins σ H s) : ∀ b o, X.base.get? b = some o → s.heap.get? b = some o ∧ H b = none := fun b o e =>
  ⟨I.base.keep b o (I.ok.bs b o e).1 (I.ok.bs b o e).2 (I.ok.nofr e) (I.ok.noex b o e), I.base.free b o (I.ok.bs b o e).1 (I.ok.bs b o e).2 (I.ok.noex b o e)⟩
theorem Inv.bk (I : Inv X pins σ H s) : ∀ b o, X.base.get? b = some o → s.heap.get? b = some o := fun b o e => (I.bs b o e).1
theorem Inv.mod (I : Inv X pins σ H s) : Mod X.K X.mg X.base := I.ok.mod
theorem Inv.kIn (I : Inv X pins σ H s) : X.K.In s.heap := I.ok.mod.kin.keeps I.bk
theorem Inv.lt (I : Inv X pins σ H s) : X.env.locals < s.heap.objs.size := let ⟨_, hn, _⟩ := I.loc; hn.lt
theorem Inv.sz (I : Inv X pins σ H s) : X.s₀.heap.objs.size ≤ s.heap.objs.size := Nat.le_trans I.ok.above (Nat.le_of_lt I.lt)
theorem Inv.nofs (I : Inv X pins σ H s) {a : Addr} (h : s.heap.objs.size ≤ a) : a ∉ X.fs := fun hb => by
  obtain ⟨_, o, ho, _⟩ := I.ok.funs.mem hb
  exact absurd (Nat.lt_of_lt_of_le (Heap.lt_size ho) (Nat.le_trans I.sz h)) (Nat.lt_irrefl _)
theorem Inv.cne (I : Inv X pins σ H s) : ∀ x c, X.env.cells.lookup x = some c → c ≠ X.env.locals := fun x c e z => by
  obtain ⟨v, o, ho, hd⟩ := I.cell x c e
  obtain ⟨m, ⟨o', es, ep, ho', hd', _⟩, _⟩ := I.loc
  rw [z, ho'] at ho; cases ho; rw [hd'] at hd; cases hd
theorem Inv.funs (I : Inv X pins σ H s) : s.heap.FunFrames X.base X.outer := by
  have all : ∀ (l : List Env), (∀ b ∈ frs l, b ∈ X.fs) → X.s₀.heap.FunFrames X.base l → s.heap.FunFrames X.base l := by
    intro l
    induction l with
    | nil => intro _ _; trivial
    | cons env r ih =>
      intro hs hl
      obtain ⟨hk, ⟨L, o, hf, hn, ho, hd⟩, hr⟩ := hl
      have hL : L ∈ X.fs := hs L (by unfold frs; rw [List.filterMap_cons, hf]; exact List.mem_cons_self)
      obtain ⟨sl, e⟩ := I.base.slot L o ho (I.ok.frf L hL) hL fun z => I.ok.exfs L z hL
      exact ⟨hk, ⟨L, _, hf, hn, e, hd⟩, ih (fun b hb => hs b (by unfold frs; rw [List.filterMap_cons, hf]; exact List.mem_cons_of_mem _ hb)) hr⟩
  exact all X.outer (fun _ hb => hb) I.ok.funs

/-- the frames that run, for a call -/
theorem Inv.stack (I : Inv X pins σ H s) : s.heap.FunFrames X.base X.stack := by
  rcases I.ok.stk with e | ⟨e, hf⟩
  · rw [e]; exact I.funs
  · rw [e]
    obtain ⟨m, hn, _⟩ := I.loc
    refine .cons (by rw [I.ok.kind]; decide) hf hn ?_ I.funs
    exact Heap.get?_none_of_le (Nat.le_trans I.ok.bsz I.ok.above)
theorem Inv.stkSub (I : Inv X pins σ H s) : ∀ b ∈ frs X.stack, b ∈ X.env.locals :: X.fs := fun b hb => by
  rcases I.ok.stk with e | ⟨e, hf⟩
  · rw [e] at hb; exact List.mem_cons_of_mem _ hb
  · rw [e] at hb
    unfold frs at hb
    rw [List.filterMap_cons, hf] at hb
    exact hb
theorem Inv.stkFree (I : Inv X pins σ H s) : ∀ b ∈ frs X.stack, H b = none := fun b hb => by
  rcases List.mem_cons.mp (I.stkSub b hb) with e | hb
  · rw [e]; exact I.free
  · obtain ⟨_, o, ho, _⟩ := I.ok.funs.mem hb
    exact I.base.free b o ho (I.ok.frf b hb) fun z => I.ok.exfs b z hb

/-- THE STEP: the untracked objects but the frame and the records at ch are kept (the callers' frames up to slots), the frame's map is kept, the new abstract heap is held -/
theorem Inv.step {g' : Array GenState} {t' : Nat} {d' : Drawn} {ch : List Addr} (I : Inv X pins σ H s)
    (hch : ∀ b ∈ ch, (b ∈ X.ex ∨ X.s₀.heap.objs.size ≤ b) ∧ b ≠ X.env.locals ∧ (∀ x c, X.env.cells.lookup x = some c → c ≠ b) ∧ ∀ p ∈ X.pn ++ pins, p.1 ≠ b)
    (keep : ∀ b o, b ≠ X.env.locals → b ∉ X.fs → b ∉ ch → s.heap.get? b = some o → H b = none → h'.get? b = some o)
    (slot : ∀ b o, b ≠ X.env.locals → b ∈ X.fs → b ∉ ch → s.heap.get? b = some o → H b = none → ∃ sl, h'.get? b = some { o with slots := sl }) (free : ∀ b o, b ∉ ch → s.heap.get? b = some o → H b = none → H' b = none)
    (there : ∀ b o, b ∉ ch → s.heap.get? b = some o → ∃ o', h'.get? b = some o')
    (tups : ∀ b xs, H b = some (.tup xs) → H' b = some (.tup xs)) (frzs : ∀ b o u, H b = some (.frz o u) → H' b = some (.frz o u)) (tbls : ∀ b ps, H b = some (.tbl ps) → ∃ more, H' b = some (.tbl (ps ++ more)))
    (ns : ∀ m, s.heap.Ns X.env.locals m → h'.Ns X.env.locals m) (hok : HOk X.prog X.w H' h') (hg : AllBare g') :
    Inv X pins σ H' { s with heap := h', gens := g', drawn := d', toks := t' } := by
  have neL : ∀ b o, X.s₀.heap.get? b = some o → b ≠ X.env.locals := fun b o e => Nat.ne_of_lt (Nat.lt_of_lt_of_le (Heap.lt_size e) I.ok.above)
  have neC : ∀ b o, X.s₀.heap.get? b = some o → b ∉ X.ex → b ∉ ch := fun b o e hx hb => by
    rcases (hch b hb).1 with z | z
    · exact hx z
    · exact absurd (Nat.lt_of_lt_of_le (Heap.lt_size e) z) (Nat.lt_irrefl _)
  have cellK : ∀ x c, X.env.cells.lookup x = some c → ∀ v, s.heap.IsCell c v → h'.IsCell c v := fun x c e v ⟨o, ho, hd⟩ => by
    have nch : c ∉ ch := fun z => (hch c z).2.2.1 x c e rfl
    by_cases hc : c ∈ X.fs
    · obtain ⟨sl, q⟩ := slot c o (I.cne x c e) hc nch ho (I.freeC x c e)
      exact ⟨_, q, hd⟩
    · exact ⟨o, keep c o (I.cne x c e) hc nch ho (I.freeC x c e), hd⟩
  refine ⟨I.ok, I.os, hg, ⟨fun b o e n hb hx => ?_, fun b o e n hb hx => ?_, fun b o e n hx => ?_, fun b o e hx => ?_, fun b xs e => tups b xs (I.base.tups b xs e), fun b o xs e => frzs b o xs (I.base.frzs b o xs e), fun b ps e => ?_⟩, ?_, fun x c e => ?_, ?_, fun x c e => ?_, fun p hp => ?_, hok, I.len⟩
  · exact keep b o (neL b o e) hb (neC b o e hx) (I.base.keep b o e n hb hx) (I.base.free b o e n hx)
  · obtain ⟨sl, e1⟩ := I.base.slot b o e n hb hx
    obtain ⟨sl', e2⟩ := slot b _ (neL b o e) hb (neC b o e hx) e1 (I.base.free b o e n hx)
    exact ⟨sl', e2⟩
  · obtain ⟨o', e1⟩ := I.base.there b o e hx
    exact free b o' (neC b o e hx) e1 (I.base.free b o e n hx)
  · obtain ⟨o', e1⟩ := I.base.there b o e hx
    exact there b o' (neC b o e hx) e1
  · obtain ⟨m1, e1⟩ := I.base.tbls b ps e
    obtain ⟨m2, e2⟩ := tbls b _ e1
    exact ⟨m1 ++ m2, by rw [e2, Array.append_assoc]⟩
  · obtain ⟨m, hn, hl⟩ := I.loc
    refine ⟨m, ns m hn, fun i x v e1 e2 e3 => ?_⟩
    obtain ⟨u, r, l⟩ := hl i x v e1 e2 e3
    refine ⟨u, r, ?_⟩
    rcases l with l | ⟨k, c, e, z⟩
    · exact .inl l
    · exact .inr ⟨k, c, e, cellK x c e _ z⟩
  · obtain ⟨v, z⟩ := I.cell x c e
    exact ⟨v, cellK x c e v z⟩
  · obtain ⟨m, ⟨o, _, _, ho, _⟩, _⟩ := I.loc
    exact free _ o (fun z => (hch _ z).2.1 rfl) ho I.free
  · obtain ⟨v, o, ho, hd⟩ := I.cell x c e
    exact free c o (fun z => (hch c z).2.2.1 x c e rfl) ho (I.freeC x c e)
  · obtain ⟨e, n, ne, nf, d⟩ := I.pin p hp
    have nch : p.1 ∉ ch := fun z => (hch p.1 z).2.2.2 p hp rfl
    exact ⟨keep p.1 p.2 ne nf nch e n, free p.1 p.2 nch e n, ne, nf, d⟩
/-- .. where the frame's own object is kept too -/
theorem Inv.un {t' : Nat} (I : Inv X pins σ H s) (u : Un X.fs [] H H' s.heap h') (hok : HOk X.prog X.w H' h') : Inv X pins σ H' { s with heap := h', toks := t' } := by
  obtain ⟨m, ⟨o, es, ep, ho, r⟩, _⟩ := id I.loc
  obtain ⟨sl, hL⟩ := u.any ho I.free (by simp)
  exact I.step (g' := s.gens) (d' := s.drawn) (ch := []) (fun _ z => nomatch z) (fun b o _ hb _ e n => u.keep b o e n hb (by simp)) (fun b o _ hb _ e n => u.slot b o e n hb (by simp)) (fun b o _ e n => u.free b o e n (by simp)) (fun b o _ e => u.there b o e (by simp)) u.tups u.frzs u.tbls (fun m' hm => by
    obtain ⟨o', es', ep', ho', r'⟩ := hm
    rw [ho] at ho'; cases ho'
    exact ⟨_, es', ep', hL, r'⟩) hok I.bare
/-- behind a call (or a comprehension's block): the slots of this frame may have changed too, the records at ch may have turned -/
theorem Inv.call {g' : Array GenState} {t' : Nat} {d' : Drawn} {ch : List Addr} (I : Inv X pins σ H s) (u : Un (frs X.stack) ch H H' s.heap h') (hok : HOk X.prog X.w H' h') (hg : AllBare g')
    (hch : ∀ b ∈ ch, (b ∈ X.ex ∨ X.s₀.heap.objs.size ≤ b) ∧ b ≠ X.env.locals ∧ (∀ x c, X.env.cells.lookup x = some c → c ≠ b) ∧ ∀ p ∈ X.pn ++ pins, p.1 ≠ b) :
    Inv X pins σ H' { s with heap := h', gens := g', drawn := d', toks := t' } := by
  obtain ⟨m, ⟨o, es, ep, ho, r⟩, _⟩ := id I.loc
  obtain ⟨sl, hL⟩ := u.any ho I.free fun z => (hch _ z).2.1 rfl
  exact I.step (ch := ch) hch (fun b o hL hb hc e n => u.keep b o e n (fun z => (List.mem_cons.mp (I.stkSub b z)).elim hL hb) hc) (fun b o _ _ hc e n => u.any e n hc) (fun b o hc e n => u.free b o e n hc) (fun b o hc e => u.there b o e hc) u.tups u.frzs u.tbls (fun m' hm => by
    obtain ⟨o', es', ep', ho', r'⟩ := hm
    rw [ho] at ho'; cases ho'
    exact ⟨_, es', ep', hL, r'⟩) hok hg
/-- an untracked record of ours (an iterator) has turned -/
theorem Inv.turned {t' : Nat} {it : Addr} (I : Inv X pins σ H s) (k : ∀ b o, b ≠ it → s.heap.get? b = some o → h'.get? b = some o) (hn : H it = none) (hL : it ≠ X.env.locals)
    (h1 : it ∈ X.ex ∨ X.s₀.heap.objs.size ≤ it) (h2 : ∀ x c, X.env.cells.lookup x = some c → c ≠ it) (h3 : ∀ p ∈ X.pn ++ pins, p.1 ≠ it) : Inv X pins σ H { s with heap := h', toks := t' } := by
  have nit : ∀ b u, H b = some u → b ≠ it := fun b u e z => by rw [z, hn] at e; cases e
  refine I.step (g' := s.gens) (d' := s.drawn) (ch := [it]) (fun b hb => ?_) (fun b o _ _ hc e _ => k b o (fun z => hc (by simp [z])) e) (fun b o _ _ hc e _ => ⟨o.slots, k b o (fun z => hc (by simp [z])) e⟩) (fun _ _ _ _ n => n)
    (fun b o hc e => ⟨o, k b o (fun z => hc (by simp [z])) e⟩) (fun _ _ e => e) (fun _ _ _ e => e) (fun b ps e => ⟨#[], by rw [e]; simp⟩) (fun m hm => ?_) (fun b u e => ?_) I.bare
  · have e : b = it := by simpa using hb
    subst e
    exact ⟨h1, hL, h2, h3⟩
  · obtain ⟨o, es, ep, ho, r⟩ := hm
    exact ⟨o, es, ep, k _ o (Ne.symm hL) ho, r⟩
  · refine (I.hok b u e).stay (fun c v hc q => k c v ?_ q) (fun _ q => q) fun _ _ q => q
    rcases hc with z | z
    · rw [z]; exact nit b u e
    · exact nit c _ z
theorem Inv.tok (I : Inv X pins σ H s) (t : Nat) : Inv X pins σ H { s with toks := t } := I.un (h' := s.heap) (t' := t) Un.refl I.hok
/-- all objects kept -/
theorem Inv.kept {t' : Nat} (I : Inv X pins σ H s) (k : ∀ b u, s.heap.get? b = some u → h'.get? b = some u) : Inv X pins σ H { s with heap := h', toks := t' } := I.un (Un.kept k) (I.hok.kept k)
/-- a new object laid and tracked -/
theorem Inv.laid {a : Addr} {o : HO} {t' : Nat} (I : Inv X pins σ H s) (k : ∀ b u, s.heap.get? b = some u → h'.get? b = some u) (hp : s.heap.objs.size ≤ a) (new : ObjOk X.prog X.w (upd H a o) h' a o) :
    Inv X pins σ (upd H a o) { s with heap := h', toks := t' } := I.un (Un.laid k hp (I.hok.fresh hp)) (I.hok.laid k hp new)
/-- an object written -/
theorem Inv.write {x e : Addr} {o : HO} {t' : Nat} (I : Inv X pins σ H s) (mu : Mut (H x)) (he : e = x ∨ H e = some (.own x)) (k : ∀ b u, b ≠ e → s.heap.get? b = some u → h'.get? b = some u) (heo : ∃ u, h'.get? e = some u)
    (new : ObjOk X.prog X.w (upd H x o) h' x o) : Inv X pins σ (upd H x o) { s with heap := h', toks := t' } := I.un (Un.write mu he k heo) (I.hok.write mu he k heo new)
/-- forgetting slots, pins -/
theorem Inv.weak {σ' : List (Option V)} (I : Inv X pins σ H s) (hl : σ'.length = σ.length) (w : ∀ (i : Nat) v, σ'[i]? = some (some v) → σ[i]? = some (some v)) : Inv X pins σ' H s :=
  ⟨I.ok, I.os, I.bare, I.base, let ⟨m, hn, hl'⟩ := I.loc; ⟨m, hn, fun i x v e1 e2 e3 => hl' i x v e1 (w i v e2) e3⟩, I.cell, I.free, I.freeC, I.pin, I.hok, hl.trans I.len⟩
theorem Inv.pins_of {pins' : List (Addr × Obj)} (I : Inv X pins σ H s) (h : ∀ p ∈ pins', s.heap.get? p.1 = some p.2 ∧ H p.1 = none ∧ p.1 ≠ X.env.locals ∧ p.1 ∉ X.fs ∧ ∀ v, p.2.data ≠ .cell v) : Inv X pins' σ H s :=
  ⟨I.ok, I.os, I.bare, I.base, I.loc, I.cell, I.free, I.freeC, fun p hp => (List.mem_append.mp hp).elim (fun z => I.pin p (List.mem_append_left _ z)) (h p), I.hok, I.len⟩

theorem nodup_ix {N : List Str} (hN : N.Nodup) {i j : Nat} {x : Str} (a : N[i]? = some x) (b : N[j]? = some x) : i = j := by
  obtain ⟨h1, e1⟩ := List.getElem?_eq_some_iff.mp a
  obtain ⟨h2, e2⟩ := List.getElem?_eq_some_iff.mp b
  exact (List.getElem_inj hN).mp (e1.trans e2.symm)

/-- a name is stored; what changed -/
theorem store_ok2 {M : Model} {A : Around} {E : Value → Shared → Prop} {i : Nat} {x : Str} {v : V} {u : Value} {Q : Unit → Shared → Prop} (I : Inv X pins σ H s) (hN : X.N.Nodup) (hi : X.N[i]? = some x) (hx : Loc X.env.scope x) (r : RelV v u)
    (h : ∀ s', Inv X pins (σ.set i (some v)) H s' → (∃ a, Heap.SameBut a s.heap s'.heap ∧ (a = X.env.locals ∨ X.env.cells.lookup x = some a)) → Q () s') (hf : X.fn x = true ∨ X.env.scope.names.lookup x = some .local := by first | exact .inl rfl | exact .inr rfl | assumption) : wpAny M A (storeName X.env x u) Q E s := by
  obtain ⟨m, hn, hl⟩ := id I.loc
  have hcls : (X.env.scope.kind == .class || (X.env.scope.kind == .module && X.env.locals != X.env.globals)) = false := by rw [I.ok.kind]; rfl
  have hiσ : i < σ.length := by rw [I.len]; exact (List.getElem?_eq_some_iff.mp hi).1
  have cne := I.cne
  have tracked : ∀ {a : Addr} {h' : Heap}, (∃ o, s.heap.get? a = some o ∧ H a = none) → Heap.SameBut a s.heap h' → HOk X.prog X.w H h' := fun {a h'} ha hs b ob e => by
    obtain ⟨_, _, hfree⟩ := ha
    refine (I.hok b ob e).stay (fun c w' hc q => (hs.2 c ?_).trans q) (fun _ q => q) fun _ _ q => q
    rintro rfl
    rcases hc with rfl | hc
    · rw [hfree] at e; cases e
    · rw [hfree] at hc; cases hc
  rcases hx with hk | hk
  · refine wpAny_storeName_local hk hn (fun h' hn' hs => ?_) hcls
    obtain ⟨oL, _, _, hoL, _⟩ := id hn
    refine h _ ⟨I.ok, I.os, I.bare, ⟨fun b o e n hb hx => ?_, fun b o e n hb hx => ?_, I.base.free, fun b o e hx => ?_, I.base.tups, I.base.frzs, I.base.tbls⟩, ⟨_, hn', fun j y v' e1 e2 e3 => ?_⟩, fun y c e => ?_, I.free, I.freeC, fun p hp => ?_, tracked ⟨oL, hoL, I.free⟩ hs, by simpa using I.len⟩ ⟨_, hs, .inl rfl⟩
    · exact (hs.2 b (Nat.ne_of_lt (Nat.lt_of_lt_of_le (Heap.lt_size e) I.ok.above))).trans (I.base.keep b o e n hb hx)
    · obtain ⟨sl, e1⟩ := I.base.slot b o e n hb hx
      exact ⟨sl, (hs.2 b (Nat.ne_of_lt (Nat.lt_of_lt_of_le (Heap.lt_size e) I.ok.above))).trans e1⟩
    · obtain ⟨o', e1⟩ := I.base.there b o e hx
      exact ⟨o', (hs.2 b (Nat.ne_of_lt (Nat.lt_of_lt_of_le (Heap.lt_size e) I.ok.above))).trans e1⟩
    · by_cases hj : j = i
      · subst hj
        rw [hi] at e1; cases e1
        rw [List.getElem?_set_self hiσ] at e2
        cases e2
        exact ⟨u, r, .inl ⟨hk, by simp⟩⟩
      · rw [List.getElem?_set_ne (Ne.symm hj)] at e2
        obtain ⟨u', r', q⟩ := hl j y v' e1 e2 e3
        refine ⟨u', r', ?_⟩
        rcases q with ⟨k, e⟩ | ⟨k, c, e, z⟩
        · refine .inl ⟨k, ?_⟩
          have : y ≠ x := fun e => hj (nodup_ix hN e1 (e ▸ hi))
          simp [this, e]
        · exact .inr ⟨k, c, e, z.sameBut hs (cne y c e)⟩
    · obtain ⟨w', z⟩ := I.cell y c e
      exact ⟨w', z.sameBut hs (cne y c e)⟩
    · obtain ⟨e, n, ne, nf, d⟩ := I.pin p hp
      exact ⟨(hs.2 p.1 ne).trans e, n, ne, nf, d⟩
  · have hfn : X.fn x = true := by
      rcases hf with z | z
      · exact z
      · rw [z] at hk; cases hk
    obtain ⟨c, hc⟩ := I.ok.has x (.inl hk)
    obtain ⟨w', z⟩ := I.cell x c hc
    refine wpAny_storeName_cell I.ok.kind hk hc z (fun h' hc' hs => ?_)
    obtain ⟨oc, hoc, hocd⟩ := id z
    refine h { s with heap := h' } ⟨I.ok, I.os, I.bare, ⟨fun b o e n hb hx => ?_, fun b o e n hb hx => ?_, I.base.free, fun b o e hx => ?_, I.base.tups, I.base.frzs, I.base.tbls⟩, ⟨m, hn.sameBut hs (Ne.symm (cne x c hc)), fun j y v' e1 e2 e3 => ?_⟩, fun y c' e => ?_, I.free, I.freeC, fun p hp => ?_, tracked ⟨oc, hoc, I.freeC x c hc⟩ hs, by simpa using I.len⟩ ⟨c, hs, .inr hc⟩
    · exact (hs.2 b (Nat.ne_of_lt (Nat.lt_of_lt_of_le (Heap.lt_size e) (I.ok.cab x c hfn hc)))).trans (I.base.keep b o e n hb hx)
    · obtain ⟨sl, e1⟩ := I.base.slot b o e n hb hx
      exact ⟨sl, (hs.2 b (Nat.ne_of_lt (Nat.lt_of_lt_of_le (Heap.lt_size e) (I.ok.cab x c hfn hc)))).trans e1⟩
    · obtain ⟨o', e1⟩ := I.base.there b o e hx
      exact ⟨o', (hs.2 b (Nat.ne_of_lt (Nat.lt_of_lt_of_le (Heap.lt_size e) (I.ok.cab x c hfn hc)))).trans e1⟩
    · by_cases hj : j = i
      · subst hj
        rw [hi] at e1; cases e1
        rw [List.getElem?_set_self hiσ] at e2
        cases e2
        exact ⟨u, r, .inr ⟨.inl hk, c, hc, hc'⟩⟩
      · rw [List.getElem?_set_ne (Ne.symm hj)] at e2
        obtain ⟨u', r', q⟩ := hl j y v' e1 e2 e3
        refine ⟨u', r', ?_⟩
        rcases q with q | ⟨k, c', e, z'⟩
        · exact .inl q
        · refine .inr ⟨k, c', e, z'.sameBut hs ?_⟩
          rintro rfl
          exact hj (nodup_ix hN e1 (I.ok.inj _ _ _ e hc ▸ hi))
    · by_cases hcc : c' = c
      · subst hcc; exact ⟨_, hc'⟩
      · obtain ⟨w2, z2⟩ := I.cell y c' e
        exact ⟨w2, z2.sameBut hs hcc⟩
    · obtain ⟨e, n, ne, nf, d⟩ := I.pin p hp
      refine ⟨(hs.2 p.1 ?_).trans e, n, ne, nf, d⟩
      intro q
      rw [q, hoc] at e
      have q' : oc = p.2 := Option.some.inj e
      exact d w' (by rw [← q']; exact hocd)
theorem store_ok {M : Model} {A : Around} {E : Value → Shared → Prop} {i : Nat} {x : Str} {v : V} {u : Value} {Q : Unit → Shared → Prop} (I : Inv X pins σ H s) (hN : X.N.Nodup) (hi : X.N[i]? = some x) (hx : Loc X.env.scope x) (r : RelV v u)
    (h : ∀ s', Inv X pins (σ.set i (some v)) H s' → Q () s') (hf : X.fn x = true ∨ X.env.scope.names.lookup x = some .local := by first | exact .inl rfl | exact .inr rfl | assumption) : wpAny M A (storeName X.env x u) Q E s :=
  store_ok2 I hN hi hx r (fun s' I' _ => h s' I') hf
/-- behind a call or a block, the state as it is -/
theorem Inv.call' {s' : Shared} {ch : List Addr} (I : Inv X pins σ H s) (ho : s'.os = s.os) (u : Un (frs X.stack) ch H H' s.heap s'.heap) (hok : HOk X.prog X.w H' s'.heap) (hg : AllBare s'.gens)
    (hch : ∀ b ∈ ch, (b ∈ X.ex ∨ X.s₀.heap.objs.size ≤ b) ∧ b ≠ X.env.locals ∧ (∀ x c, X.env.cells.lookup x = some c → c ≠ b) ∧ ∀ p ∈ X.pn ++ pins, p.1 ≠ b) : Inv X pins σ H' s' := by
  obtain ⟨h', g', d', t', o'⟩ := s'
  have e : o' = s.os := ho
  subst e
  exact I.call (g' := g') (t' := t') (d' := d') u hok hg hch
end

/-- an exception: its class, its own dict's address (where it has one), the abstract heap behind it -/
abbrev XK := Value → Option Addr → Hp → Prop
abbrev St := List (Option V)
abbrev VK := V → Hp → Prop
/-- an expression's reading; a test's; an argument list's -/
abbrev TE := St → Hp → VK → Prop
abbrev TT := St → Hp → (Bool → Hp → Prop) → Prop
abbrev TA := St → Hp → (List V → Hp → Prop) → Prop
/-- what is wanted behind a statement -/
structure Ends where
  nx : St → Hp → Prop
  rt : VK
  bk : St → Hp → Prop := fun _ _ => False
  ct : St → Hp → Prop := fun _ _ => False
abbrev TS := Ends → St → Hp → Prop

def EP (X : Cx) (pins : List (Addr × Obj)) (σ : St) (Q : VK) (u : Value) (s' : Shared) : Prop := ∃ v H', Inv X pins σ H' s' ∧ RelV v u ∧ Q v H'
def TP (X : Cx) (pins : List (Addr × Obj)) (σ : St) (Q : Bool → Hp → Prop) (b : Bool) (s' : Shared) : Prop := ∃ H', Inv X pins σ H' s' ∧ Q b H'
def AP (X : Cx) (pins : List (Addr × Obj)) (σ : St) (Q : List V → Hp → Prop) (us : List Value) (s' : Shared) : Prop := ∃ vs H', Inv X pins σ H' s' ∧ Vals vs us ∧ Q vs H'
def SP (X : Cx) (pins : List (Addr × Obj)) (D : Ends) (f : Flow) (s' : Shared) : Prop :=
  match f with
  | .next => ∃ σ' H', Inv X pins σ' H' s' ∧ D.nx σ' H'
  | .brk => ∃ σ' H', Inv X pins σ' H' s' ∧ D.bk σ' H'
  | .cont => ∃ σ' H', Inv X pins σ' H' s' ∧ D.ct σ' H'
  | .ret u => ∃ v σ' H', Inv X pins σ' H' s' ∧ RelV v u ∧ D.rt v H'

def PE (X : Cx) (e : Expr) (t : TE) : Prop :=
  ∀ (pins : List (Addr × Obj)) (s : Shared) (σ : St) (H : Hp) (Q : VK), Inv X pins σ H s → t σ H Q → wpAny (model X.prog X.w) X.A (eval e X.env) (EP X pins σ Q) X.xe s
def PT (X : Cx) (e : Expr) (t : TT) : Prop :=
  ∀ (pins : List (Addr × Obj)) (s : Shared) (σ : St) (H : Hp) (Q : Bool → Hp → Prop), Inv X pins σ H s → t σ H Q → wpAny (model X.prog X.w) X.A (isTrue e X.env (eval e X.env)) (TP X pins σ Q) X.xe s
/-- a test whatever its 'whole' is (and, or) -/
def PW (X : Cx) (e : Expr) (t : TT) : Prop :=
  ∀ (whole : Sem Value) (pins : List (Addr × Obj)) (s : Shared) (σ : St) (H : Hp) (Q : Bool → Hp → Prop), Inv X pins σ H s → t σ H Q → wpAny (model X.prog X.w) X.A (isTrue e X.env whole) (TP X pins σ Q) X.xe s
theorem PW.pt {X : Cx} {e : Expr} {t : TT} (h : PW X e t) : PT X e t := h _
/-- an argument list (no star), from the left -/
def PA (X : Cx) (es : List Expr) (t : TA) : Prop :=
  ∀ (pos : Pos) (pins : List (Addr × Obj)) (s : Shared) (σ : St) (H : Hp) (Q : List V → Hp → Prop), Inv X pins σ H s → t σ H Q → wpAny (model X.prog X.w) X.A (spliced (backTo pos (starEach es X.env))) (AP X pins σ Q) X.xe s
def PS (X : Cx) (st : Stmt) (t : TS) : Prop :=
  ∀ (pins : List (Addr × Obj)) (s : Shared) (σ : St) (H : Hp) (D : Ends), Inv X pins σ H s → t D σ H → wpAny (model X.prog X.w) X.A (exec st X.env) (SP X pins D) X.xe s
def PSs (X : Cx) (st : List Stmt) (t : TS) : Prop :=
  ∀ (pins : List (Addr × Obj)) (s : Shared) (σ : St) (H : Hp) (D : Ends), Inv X pins σ H s → t D σ H → wpAny (model X.prog X.w) X.A (execs st X.env) (SP X pins D) X.xe s
/-- weaken the end -/
theorem thn {α : Type} {t : Sem α} {Q Q' : α → Shared → Prop} {M : Model} {A : Around} {E : Value → Shared → Prop} {s : Shared} (h : wpAny M A t Q E s) (hQ : ∀ a s, Q a s → Q' a s) : wpAny M A t Q' E s := wpAny_mono h hQ fun _ _ x => x
end L2

namespace L2
open PySem PySem.Spec PyProof.Rows
section
variable {X : Cx}

def tVar (i : Nat) : TE := fun σ H Q => ∃ v, σ[i]? = some (some v) ∧ Q v H
def tC (v : V) : TE := fun _ H Q => Q v H
theorem pe_var {i : Nat} {x : Str} {pos : Pos} (hN : X.N[i]? = some x) (hv : Vis X.env.scope x) (hd : (x == ("__debug__" : Str)) = false := by decide) (hcd : (x == ("__classdict__" : Str)) = false := by decide) : PE X (.Name x pos) (tVar i) := by
  intro pins s σ H Q I h
  obtain ⟨v, e, h⟩ := h
  obtain ⟨m, hn, hl⟩ := I.loc
  obtain ⟨u, r, l⟩ := hl i x v hN e hv
  have fin : EP X pins σ Q u s := ⟨v, H, I, r, h⟩
  rcases l with ⟨hk, hm⟩ | ⟨hk, c, hc, hcell⟩
  · exact wpAny_Name (wpAny_loadName_local I.ok.kind hk hn hm fin) hd
  · rcases hk with hk | hk
    · exact wpAny_Name (wpAny_loadName_cell I.ok.kind hk hc hcell fin) hd
    · exact wpAny_Name (wpAny_loadName_free I.ok.kind hk hc hcell fin hcd) hd
theorem pe_int {i j pos} : PE X (.Constant (.int i) j pos) (tC (.int i)) := fun _ _ _ H _ I h => wpAny_Constant_int ⟨.int i, H, I.tok _, ⟨_, rfl⟩, h⟩
theorem pe_bl {b j pos} : PE X (.Constant (.bool b) j pos) (tC (.bl b)) := fun _ _ _ H _ I h => Constant_bool ⟨.bl b, H, I, rfl, h⟩
theorem pe_str {x j pos} : PE X (.Constant (.str x) j pos) (tC (.str x)) := fun _ _ _ H _ I h => Calls.Constant_str ⟨.str x, H, I.tok _, ⟨_, rfl⟩, h⟩

/-- a global name of the def -/
def Gl (X : Cx) (x : Str) : Prop := X.env.kindOf x = some .globalImplicit
theorem ld_glob {E : Value → Shared → Prop} {pins : List (Addr × Obj)} {s : Shared} {σ : St} {H : Hp} {x : Str} {u : Value} {pos : Pos} {Q : Value → Shared → Prop} (I : Inv X pins σ H s) (hg : Gl X x) (hm : X.mg x = some u) (h : Q u s)
    (hd : (x == ("__debug__" : Str)) = false := by decide) : wpAny (model X.prog X.w) X.A (eval (.Name x pos) X.env) Q E s :=
  Calls.Name_function_global I.ok.kind hg (Calls.loadGlobal_global (by rw [I.ok.glob]; exact I.mod.glob.keeps I.bk) hm h) hd
theorem ld_blt {E : Value → Shared → Prop} {pins : List (Addr × Obj)} {s : Shared} {σ : St} {H : Hp} {x : Str} {u : Value} {pos : Pos} {Q : Value → Shared → Prop} (I : Inv X pins σ H s) (hg : Gl X x) (hm : X.mg x = none) (hv : bootBuiltins x = some u) (h : Q u s)
    (hn : x ≠ "__name__" := by decide) (hd : (x == ("__debug__" : Str)) = false := by decide) : wpAny (model X.prog X.w) X.A (eval (.Name x pos) X.env) Q E s := by
  obtain ⟨mb, h1, h2⟩ := I.mod.blt
  exact Calls.Name_function_global I.ok.kind hg (Calls.loadGlobal_builtin (by rw [I.ok.glob]; exact I.mod.glob.keeps I.bk) hm (by rw [I.ok.blt]; exact h1.keeps I.bk) ((h2 x hn).trans hv) h) hd
/-- a module's constant, a class, a function, as a value -/
theorem pe_glob {x : Str} {v : V} {u : Value} {pos : Pos} (hg : Gl X x) (hm : X.mg x = some u) (r : RelV v u) (hd : (x == ("__debug__" : Str)) = false := by decide) : PE X (.Name x pos) (tC v) :=
  fun _ _ _ H _ I h => ld_glob I hg hm ⟨v, H, I, r, h⟩ hd
theorem pe_bltn {x : Str} {v : V} {u : Value} {pos : Pos} (hg : Gl X x) (hm : X.mg x = none) (hv : bootBuiltins x = some u) (r : RelV v u) (hn : x ≠ "__name__" := by decide) (hd : (x == ("__debug__" : Str)) = false := by decide) : PE X (.Name x pos) (tC v) :=
  fun _ _ _ H _ I h => ld_blt I hg hm hv ⟨v, H, I, r, h⟩ hn hd

variable {a b : Expr} {ta tb : TE} {pos : Pos}
def PC (X : Cx) (op : CmpOp) (a b : Expr) (t : TE) : Prop :=
  ∀ (pins : List (Addr × Obj)) (s : Shared) (σ : St) (H : Hp) (Q : VK), Inv X pins σ H s → t σ H Q →
    wpAny (model X.prog X.w) X.A (eval a X.env) (fun v s₁ => wpAny (model X.prog X.w) X.A (eval b X.env) (fun u s₂ => wpAny (model X.prog X.w) X.A (compareOp op v u) (EP X pins σ Q) X.xe s₂) X.xe s₁) X.xe s
/-- a comparison as a value, as a test -/
def tB (t : TE) : TT := fun σ H Q => t σ H fun x H1 => ∃ c, x = .bl c ∧ Q c H1
theorem pt_cmp {op : CmpOp} {t : TE} (h : PC X op a b t) (h1 : behindInMarks op b = false := by first | exact nobehind _ (by decide) (by decide) | rfl) : PT X (.Compare a [op] [b] pos) (tB t) := by
  intro pins s σ H Q I hw
  refine wpAny_isTrue_Compare1 (thn (h pins s σ H _ I hw) fun v s1 h1 => thn h1 fun u s2 h2 => thn h2 fun c s3 ⟨x, H1, I1, r1, q1⟩ => ?_) h1
  obtain ⟨d, rfl, q⟩ := q1
  cases r1
  exact wpAny_truthy_bool ⟨H1, I1, q⟩
/-- an expression whose value is a bool, as a test -/
theorem pt_val {e : Expr} {t : TE} (h : PE X e t) (he : ∀ whole, isTrue e X.env whole = (do let v ← whole; standAt e.pos; holding [v] (truthy v)) := by intro _; rfl) : PT X e (tB t) := by
  intro pins s σ H Q I hw
  refine isTrue_plain (thn (h pins s σ H _ I hw) fun v s1 ⟨x, H1, I1, r1, q1⟩ => ?_) (he _)
  obtain ⟨d, rfl, q⟩ := q1
  cases r1
  exact wpAny_truthy_bool ⟨H1, I1, q⟩

variable {tA tB' : TT} {rest : List Expr}
def tAnd (t u : TT) : TT := fun σ H Q => t σ H fun c H1 => if c = true then u σ H1 Q else Q false H1
def tOr (t u : TT) : TT := fun σ H Q => t σ H fun c H1 => if c = true then Q true H1 else u σ H1 Q
def tNot (t : TT) : TT := fun σ H Q => t σ H fun c H1 => Q (!c) H1
theorem pw_and1 (ha : PT X a tA) : PW X (.BoolOp .And [a] pos) tA := by
  intro wh pins s σ H Q I h
  refine isTrue_and (thn (ha pins s σ H Q I h) fun c s1 e => ?_)
  cases c with
  | true => exact isTrue_and_nil e
  | false => exact e
theorem pw_or1 (ha : PT X a tA) : PW X (.BoolOp .Or [a] pos) tA := by
  intro wh pins s σ H Q I h
  refine isTrue_or (thn (ha pins s σ H Q I h) fun c s1 e => ?_)
  cases c with
  | false => exact isTrue_or_nil e
  | true => exact e
theorem pw_and (ha : PT X a tA) (hb : PW X (.BoolOp .And (b :: rest) pos) tB') : PW X (.BoolOp .And (a :: b :: rest) pos) (tAnd tA tB') := by
  intro wh pins s σ H Q I h
  refine isTrue_and (thn (ha pins s σ H _ I h) fun c s1 ⟨H1, I1, q1⟩ => ?_)
  cases c with
  | true => exact hb wh pins s1 σ H1 Q I1 q1
  | false => exact ⟨H1, I1, q1⟩
theorem pw_or (ha : PT X a tA) (hb : PW X (.BoolOp .Or (b :: rest) pos) tB') : PW X (.BoolOp .Or (a :: b :: rest) pos) (tOr tA tB') := by
  intro wh pins s σ H Q I h
  refine isTrue_or (thn (ha pins s σ H _ I h) fun c s1 ⟨H1, I1, q1⟩ => ?_)
  cases c with
  | true => exact ⟨H1, I1, q1⟩
  | false => exact hb wh pins s1 σ H1 Q I1 q1
theorem pt_not (ha : PT X a tA) : PT X (.UnaryOp .Not a pos) (tNot tA) := by
  intro pins s σ H Q I h
  exact isTrue_not (ha pins s σ H (fun c H1 => Q (!c) H1) I h)
/-- a if t else b -/
def tIf (t : TT) (ta tb : TE) : TE := fun σ H Q => t σ H fun c H1 => if c = true then ta σ H1 Q else tb σ H1 Q
theorem pe_ifExp {c : Expr} (hc : PT X c tA) (ha : PE X a ta) (hb : PE X b tb) : PE X (.IfExp c a b pos) (tIf tA ta tb) := by
  intro pins s σ H Q I h
  refine wpAny_IfExp (thn (hc pins s σ H _ I h) fun d s1 ⟨H1, I1, q1⟩ => ?_)
  cases d with
  | true => exact ha pins s1 σ H1 Q I1 q1
  | false => exact hb pins s1 σ H1 Q I1 q1
end
end L2

namespace L2
open PySem PySem.Spec PyProof.Rows

def SqL (K : PySem.W.Frag) (H : Hp) (a : Addr) (xs : List V) : Prop :=
  Rd H a (.lst xs) ∨
    ∃ (o : Obj) (its : Array Value) (n : Nat), K.lookup a = some o ∧ o.cls = .type "list" ∧ o.dict = none ∧ o.data = .seq its n ∧ its.size ≤ sizeLine ∧ Vals xs its.toList
def SqT (K : PySem.W.Frag) (H : Hp) (a : Addr) (xs : List V) : Prop :=
  Rd H a (.tup xs) ∨
    ∃ (o : Obj) (its : Array Value) (n : Nat), K.lookup a = some o ∧ o.cls = .type "tuple" ∧ o.data = .seq its n ∧ its.size ≤ sizeLine ∧ Vals xs its.toList
def absV : Value → Option V
  | .none => some .non
  | .bool b => some (.bl b)
  | .int i _ => some (.int i)
  | .str x _ => some (.str x)
  | .bytes b _ => some (.byt b)
  | .float b _ => some (.flt b)
  | .ref a => some (.ref a)
  | .type n => some (.ty n)
  | _ => none
theorem RelV.abs {x : V} {u : Value} (r : RelV x u) : absV u = some x := by
  cases x with
  | non => cases r; rfl
  | bl _ => cases r; rfl
  | int _ => obtain ⟨t, rfl⟩ := r; rfl
  | str _ => obtain ⟨t, rfl⟩ := r; rfl
  | byt _ => obtain ⟨t, rfl⟩ := r; rfl
  | flt _ => obtain ⟨t, rfl⟩ := r; rfl
  | ref _ => cases r; rfl
  | ty _ => cases r; rfl
theorem RelV.inj {x y : V} {u : Value} (r : RelV x u) (q : RelV y u) : x = y := Option.some.inj (r.abs.symm.trans q.abs)
theorem Vals.inj : ∀ {xs ys : List V} {us : List Value}, Vals xs us → Vals ys us → xs = ys
  | _, _, _, .nil, .nil => rfl
  | _, _, _, .cons r t, .cons r' t' => by rw [r.inj r', Vals.inj t t']
section
variable {X : Cx} {pins : List (Addr × Obj)} {σ : St} {H : Hp} {s : Shared} {a : Addr} {xs ys : List V}
theorem SqL.of {K : PySem.W.Frag} (h : H a = some (.lst xs)) : SqL K H a xs := .inl (.inl h)
theorem SqT.of {K : PySem.W.Frag} (h : H a = some (.tup xs)) : SqT K H a xs := .inl (.inl h)
theorem Inv.list (I : Inv X pins σ H s) (h : SqL X.K H a xs) : ∃ its : List Value, Vals xs its ∧ PlainL s.heap a its.toArray ∧ xs.length ≤ sizeLine := by
  rcases h with h | ⟨o, its, n, hk, hc, hd, hs, hz, r⟩
  · obtain ⟨z, its, n, r, e⟩ := h.ok I.hok
    exact ⟨its, r, ⟨_, n, e, rfl, rfl, rfl⟩, z⟩
  · refine ⟨its.toList, r, ⟨o, n, I.kIn a o hk, hc, hd, by simpa using hs⟩, ?_⟩
    have e := r.length
    simp only [Array.length_toList] at e
    omega
theorem Inv.tuple (I : Inv X pins σ H s) (h : SqT X.K H a xs) : ∃ its : List Value, Vals xs its ∧ IsTup s.heap a its.toArray ∧ xs.length ≤ sizeLine := by
  rcases h with h | ⟨o, its, n, hk, hc, hs, hz, r⟩
  · obtain ⟨z, its, r, p⟩ := h.ok I.hok
    exact ⟨its, r, p, z⟩
  · refine ⟨its.toList, r, ⟨o, I.kIn a o hk, hc, n, by simpa using hs⟩, ?_⟩
    have e := r.length
    simp only [Array.length_toList] at e
    omega
theorem Inv.list_inj (I : Inv X pins σ H s) (h : SqL X.K H a xs) (h' : SqL X.K H a ys) : xs = ys := by
  obtain ⟨its, r, ⟨o, n, e, _, _, d⟩, _⟩ := I.list h
  obtain ⟨its', r', ⟨o', n', e', _, _, d'⟩, _⟩ := I.list h'
  rw [e] at e'; cases e'
  rw [d] at d'
  injection d' with d1 _
  have : its = its' := by simpa using congrArg Array.toList d1
  subst this
  exact r.inj r'
end

abbrev Cx.wish (X : Cx) (E : Value → Shared → Prop) : Cx := { X with xe := E }
/-- no exception leaves -/
abbrev Cx.nox (X : Cx) : Cx := X.wish fun _ _ => False
theorem Cx.Ok.wish {X : Cx} (ok : X.Ok) (E : Value → Shared → Prop) : (X.wish E).Ok :=
  ⟨ok.mod, ok.kind, ok.glob, ok.blt, ok.above, ok.inj, ok.has, ok.cab, ok.hd, ok.frames, ok.stk, ok.exf, ok.bs, ok.bsz, ok.noex, ok.exfs, ok.funs, ok.frf⟩
theorem Cx.Ok.unwish {X : Cx} {E : Value → Shared → Prop} (ok : (X.wish E).Ok) : X.Ok :=
  ⟨ok.mod, ok.kind, ok.glob, ok.blt, ok.above, ok.inj, ok.has, ok.cab, ok.hd, ok.frames, ok.stk, ok.exf, ok.bs, ok.bsz, ok.noex, ok.exfs, ok.funs, ok.frf⟩
section
variable {X : Cx} {pins : List (Addr × Obj)} {σ : St} {H : Hp} {s : Shared} {E : Value → Shared → Prop}
theorem Inv.wish (I : Inv X pins σ H s) (E : Value → Shared → Prop) : Inv (X.wish E) pins σ H s := ⟨I.ok.wish E, I.os, I.bare, I.base, I.loc, I.cell, I.free, I.freeC, I.pin, I.hok, I.len⟩
theorem Inv.unwish (I : Inv (X.wish E) pins σ H s) : Inv X pins σ H s := ⟨I.ok.unwish, I.os, I.bare, I.base, I.loc, I.cell, I.free, I.freeC, I.pin, I.hok, I.len⟩
theorem SP.unwish {D : Ends} {f : Flow} {s' : Shared} (h : SP (X.wish E) pins D f s') : SP X pins D f s' := by
  cases f with
  | next => obtain ⟨σ', H', I, q⟩ := h; exact ⟨σ', H', I.unwish, q⟩
  | brk => obtain ⟨σ', H', I, q⟩ := h; exact ⟨σ', H', I.unwish, q⟩
  | cont => obtain ⟨σ', H', I, q⟩ := h; exact ⟨σ', H', I.unwish, q⟩
  | ret u => obtain ⟨v, σ', H', I, r, q⟩ := h; exact ⟨v, σ', H', I.unwish, r, q⟩
theorem PSs.nox {st : List Stmt} {t : TS} (h : PSs X.nox st t) : PSs X st t := fun pins s σ H D I hw =>
  wpAny_mono (h pins s σ H D (I.wish _) hw) (fun _ _ q => q.unwish) fun _ _ z => False.elim z
end

section
variable {X : Cx} {st : Stmt} {rest : List Stmt} {t u : TS} {e : Expr} {te : TE} {pos : Pos}
def tNext : TS := fun D σ H => D.nx σ H
def tSeq (t u : TS) : TS := fun D σ H => t { D with nx := u D } σ H
theorem pss_nil : PSs X [] tNext := fun _ _ σ H _ I h => wpAny_execs_nil ⟨σ, H, I, h⟩
theorem pss_cons (h1 : PS X st t) (h2 : PSs X rest u) : PSs X (st :: rest) (tSeq t u) := by
  intro pins s σ H D I h
  refine wpAny_execs_cons (thn (h1 pins s σ H { D with nx := u D } I h) fun f s1 q => ?_)
  cases f with
  | next =>
    obtain ⟨σ', H', I', q⟩ := q
    exact h2 pins s1 σ' H' D I' q
  | ret v => exact q
  | brk => exact q
  | cont => exact q
theorem pss_one (h1 : PS X st t) : PSs X [st] t := by
  intro pins s σ H D I h
  refine wpAny_execs_cons (thn (h1 pins s σ H D I h) fun f s1 q => ?_)
  cases f with
  | next => exact wpAny_execs_nil q
  | ret v => exact q
  | brk => exact q
  | cont => exact q
/-- in a def's body nothing is shown -/
theorem Inv.quiet {pins : List (Addr × Obj)} {σ : St} {H : Hp} {s : Shared} (I : Inv X pins σ H s) : interactive X.env = false := by simp [interactive, I.ok.kind]
/-- an expression whose value is dropped -/
def tDrop (te : TE) : TS := fun D σ H => te σ H fun _ H1 => D.nx σ H1
theorem ps_expr (he : PE X e te) (hs : swapsWith e none pos.line X.env = pure false := by rfl) : PS X (.Expr e pos) (tDrop te) := by
  intro pins s σ H D I h
  exact wpAny_Expr_any (thn (he pins s σ H _ I h) fun v s1 ⟨x, H1, I1, r1, q1⟩ => ⟨σ, H1, I1, q1⟩) I.quiet hs
def tRet (te : TE) : TS := fun D σ H => te σ H D.rt
theorem ps_ret (he : PE X e te) : PS X (.Return (some e) pos) (tRet te) := by
  intro pins s σ H D I h
  exact wpAny_Return_some (thn (he pins s σ H _ I h) fun v s1 ⟨x, H1, I1, r1, q1⟩ => ⟨x, σ, H1, I1, r1, q1⟩)
def tIfS (c : TT) (t u : TS) : TS := fun D σ H => c σ H fun b H1 => if b = true then t D σ H1 else u D σ H1
theorem ps_if {c : Expr} {a b : List Stmt} {tc : TT} (hc : PT X c tc) (ha : PSs X a t) (hb : PSs X b u) : PS X (.If c a b pos) (tIfS tc t u) := by
  intro pins s σ H D I h
  refine wpAny_If (thn (hc pins s σ H _ I h) fun d s1 ⟨H1, I1, q1⟩ => ?_)
  cases d with
  | true => exact ha pins s1 σ H1 D I1 q1
  | false => exact hb pins s1 σ H1 D I1 q1
end

abbrev TG := V → St → Hp → (St → Hp → Prop) → Prop
abbrev TGs := List V → St → Hp → (St → Hp → Prop) → Prop
def PG (X : Cx) (target : Expr) (t : TG) : Prop :=
  ∀ (pins : List (Addr × Obj)) (s : Shared) (σ : St) (H : Hp) (v : V) (u : Value) (Q : St → Hp → Prop), Inv X pins σ H s → RelV v u → t v σ H Q →
    wpAny (model X.prog X.w) X.A (assign target X.env u) (fun _ s' => ∃ σ' H', Inv X pins σ' H' s' ∧ Q σ' H') X.xe s
/-- several targets, one after another -/
def PGs (X : Cx) (ts : List Expr) (t : TGs) : Prop :=
  ∀ (pins : List (Addr × Obj)) (s : Shared) (σ : St) (H : Hp) (vs : List V) (us : List Value) (Q : St → Hp → Prop), Inv X pins σ H s → Vals vs us → t vs σ H Q →
    wpAny (model X.prog X.w) X.A (assignInOrder ((assignEach ts X.env).map (·.2)) us) (fun _ s' => ∃ σ' H', Inv X pins σ' H' s' ∧ Q σ' H') X.xe s
section
variable {X : Cx} {pos : Pos}
def gName (i : Nat) : TG := fun v σ H Q => Q (σ.set i (some v)) H
theorem pg_name {i : Nat} {x : Str} (hN : X.N.Nodup) (hi : X.N[i]? = some x) (hx : Loc X.env.scope x) (hf : X.fn x = true ∨ X.env.scope.names.lookup x = some .local := by first | exact .inl rfl | exact .inr rfl | assumption) : PG X (.Name x pos) (gName i) := by
  intro pins s σ H v u Q I r h
  exact wpAny_assign_Name (store_ok I hN hi hx r (fun s' I' => ⟨_, H, I', h⟩) hf)
def gNil : TGs := fun vs σ H Q => vs = [] ∧ Q σ H
def gCons (t : TG) (u : TGs) : TGs := fun vs σ H Q => ∃ v r, vs = v :: r ∧ t v σ H fun σ' H' => u r σ' H' Q
theorem pgs_nil : PGs X [] gNil := by
  intro pins s σ H vs us Q I r h
  obtain ⟨e, h⟩ := h
  subst e
  cases r
  exact assignInOrder_nil ⟨σ, H, I, h⟩
theorem pgs_cons {e : Expr} {es : List Expr} {t : TG} {u : TGs} (h1 : PG X e t) (h2 : PGs X es u)
    (hs : (assignEach (e :: es) X.env).map (·.2) = assign e X.env :: (assignEach es X.env).map (·.2) := by rfl) : PGs X (e :: es) (gCons t u) := by
  intro pins s σ H vs us Q I r h
  obtain ⟨v, vr, e1, h⟩ := h
  subst e1
  cases r with
  | cons r rr =>
    rw [hs]
    refine assignInOrder_cons (thn (h1 pins s σ H _ _ _ I r h) fun _ s1 ⟨σ1, H1, I1, q1⟩ => ?_)
    exact h2 pins s1 σ1 H1 _ _ Q I1 rr q1
/-- (a, b, ..) = a tuple of that length -/
def gTup (K : PySem.W.Frag) (n : Nat) (t : TGs) : TG := fun v σ H Q => ∃ a xs, v = .ref a ∧ SqT K H a xs ∧ xs.length = n ∧ t xs σ H Q
theorem pg_tup {es : List Expr} {k : Nat} {t : TGs} {n : Nat} (hc : X.calm = true) (h : PGs X es t)
    (hn : (assignEach es X.env).length = n := by rfl) (hst : (assignEach es X.env).findIdx? (·.1) = none := by rfl) : PG X (.Tuple es k pos) (gTup X.K n t) := by
  intro pins s σ H v u Q I r hw
  obtain ⟨a, xs, e1, hq, hl, hw⟩ := hw
  subst e1
  cases r
  obtain ⟨its, rv, ht, hz⟩ := I.tuple hq
  refine assign_Tuple_tuple (I.ok.hd hc) ht (by simp [hn, ← hl, rv.length]) hst fun h' hx => ?_
  have I1 : Inv X pins σ H { s with heap := h' } := I.kept (t' := s.toks) fun b o e => hx b o (Nat.ne_of_lt (Heap.lt_size e)) e
  exact h pins _ σ H xs _ Q I1 (by simpa using rv) hw
/-- target = value -/
def tAsg (te : TE) (g : TG) : TS := fun D σ H => te σ H fun x H1 => g x σ H1 D.nx
theorem ps_asg {tg e : Expr} {te : TE} {g : TG} (he : PE X e te) (hg : PG X tg g) (hs : swapsWithSole [tg] e pos.line X.env = pure false := by rfl) (hw : swappedStores [tg] e X.env = pure none := by rfl)
    (h1 : (assignEach [tg] X.env).map (·.2) = [assign tg X.env] := by rfl) : PS X (.Assign [tg] e pos) (tAsg te g) := by
  intro pins s σ H D I h
  refine wpAny_Assign_stores (thn (he pins s σ H _ I h) fun v s1 ⟨x, H1, I1, r1, q1⟩ => ?_) hs hw
  rw [h1]
  exact thn (hg pins s1 σ H1 x v _ I1 r1 q1) fun _ s2 q => q
/-- name = value -/
theorem ps_set {i : Nat} {x : Str} {e : Expr} {te : TE} {pos' : Pos} (hN : X.N.Nodup) (hi : X.N[i]? = some x) (hx : Loc X.env.scope x) (he : PE X e te) (hs : swapsWith e (some (.Name x pos')) pos.line X.env = pure false := by rfl) (hf : X.fn x = true ∨ X.env.scope.names.lookup x = some .local := by first | exact .inl rfl | exact .inr rfl | assumption) :
    PS X (.Assign [.Name x pos'] e pos) (tAsg te (gName i)) := by
  intro pins s σ H D I h
  refine wpAny_Assign_Name (thn (he pins s σ H _ I h) fun v s1 ⟨y, H1, I1, r1, q1⟩ => ?_) hs
  exact store_ok I1 hN hi hx r1 (fun s2 I2 => ⟨_, H1, I2, q1⟩) hf
end

section
variable {X : Cx} {pos : Pos}
/-- the invariant W with its measure -/
def tWhile (c : TT) (tb : TS) : TS := fun D σ H => ∃ W : Nat → St → Hp → Prop, (∃ m, W m σ H) ∧ ∀ m σ H, W m σ H →
  c σ H fun b H1 => if b = true then ∃ N : St → Hp → Prop, (∀ σ' H', N σ' H' → ∃ m', m' < m ∧ W m' σ' H') ∧ tb { D with nx := N, ct := N, bk := D.nx } σ H1 else D.nx σ H1
theorem ps_while {c : Expr} {body : List Stmt} {tc : TT} {tb : TS} (hp : PassesOwn (model X.prog X.w) X.A X.env X.xe) (hc : PT X c tc) (hb : PSs X body tb) : PS X (.While c body [] pos) (tWhile tc tb) := by
  intro pins s σ H D I h
  obtain ⟨W, ⟨m0, w0⟩, turn⟩ := h
  refine wpAny_While (codeAny_whileLoop (fun n s' => ∃ σ' H', Inv X pins σ' H' s' ∧ W n σ' H') ?_ m0 ⟨σ, H, I, w0⟩)
  rintro n s1 ⟨σ1, H1, I1, w1⟩
  refine wpAny_passesOwn hp (thn (hc pins s1 σ1 H1 _ I1 (turn n σ1 H1 w1)) fun b s2 ⟨H2, I2, q2⟩ => ?_)
  cases b with
  | true =>
    obtain ⟨N, hN, q2⟩ := q2
    rw [if_pos rfl]
    refine wpAny_passesOwn hp (thn (hb pins s2 σ1 H2 _ I2 q2) fun f s3 q3 => ?_)
    cases f with
    | next =>
      obtain ⟨σ3, H3, I3, n3⟩ := q3
      obtain ⟨m', hm, w3⟩ := hN σ3 H3 n3
      exact ⟨m', hm, σ3, H3, I3, w3⟩
    | cont =>
      obtain ⟨σ3, H3, I3, n3⟩ := q3
      obtain ⟨m', hm, w3⟩ := hN σ3 H3 n3
      exact ⟨m', hm, σ3, H3, I3, w3⟩
    | brk => exact q3
    | ret v => exact q3
  | false =>
    rw [if_neg Bool.false_ne_true]
    exact wpAny_execs_nil ⟨σ1, H2, I2, q2⟩
end

/-- at turn i: it yields x (the heap may grow), or it stops -/
structure It where
  go : Nat → Hp → Prop
  yld : Nat → Hp → V → Hp → Prop
  stop : Nat → Hp → Prop
/-- the iterator's own objects may turn: they are not the frame's, not pinned, younger than the entry (or a comprehension's own) -/
def FpOk (X : Cx) (pins : List (Addr × Obj)) (H : Hp) (b : Addr) : Prop :=
  H b = none ∧ b ≠ X.env.locals ∧ b ∉ X.fs ∧ (b ∈ X.ex ∨ X.s₀.heap.objs.size ≤ b) ∧ (∀ x c, X.env.cells.lookup x = some c → c ≠ b) ∧ ∀ p ∈ X.pn ++ pins, p.1 ≠ b
theorem Inv.fpOk {X : Cx} {pins : List (Addr × Obj)} {σ : St} {H H' : Hp} {s : Shared} {b : Addr} (I : Inv X pins σ H s) (hb : s.heap.objs.size ≤ b) (hn : H' b = none) : FpOk X pins H' b := by
  refine ⟨hn, Nat.ne_of_gt (Nat.lt_of_lt_of_le I.lt hb), I.nofs hb, .inr (Nat.le_trans I.sz hb), fun x c e z => ?_, fun p hp z => ?_⟩
  · obtain ⟨v, q⟩ := I.cell x c e
    exact absurd (Nat.lt_of_lt_of_le q.lt (by rw [z]; exact hb)) (Nat.lt_irrefl _)
  · exact absurd (Nat.lt_of_lt_of_le (Heap.lt_size (I.pin p hp).1) (by rw [z]; exact hb)) (Nat.lt_irrefl _)
structure Turn (P : Program) (w : World) (K : PySem.W.Frag) (tg : Expr) (J : It) (fp : List Addr) (it : Addr) (tn : Nat → Heap → Prop) : Prop where
  mem : it ∈ fp
  obj : ∀ i h, tn i h → ∀ b ∈ fp, ∃ o, h.get? b = some o ∧ ∀ v, o.data ≠ .cell v
  keep : ∀ i h h', tn i h → (∀ b ∈ fp, ∀ o, h.get? b = some o → h'.get? b = some o) → tn i h'
  item : ∀ (X : Cx), X.prog = P → X.w = w → X.K = K → X.calm = true → ∀ (i : Nat) (pins : List (Addr × Obj)) (s : Shared) (σ : St) (H : Hp) (E : Value → Shared → Prop), Inv X pins σ H s → (∀ b ∈ fp, FpOk X pins H b) → tn i s.heap → J.go i H →
    wpAny (model P w) X.A (pyNext (.ref it)) (fun r s1 => ∃ u, r = some u ∧
      wpAny (model P w) X.A (letOwnedTupleGo tg (.ref it) u) (fun _ s2 => ∃ x H', Inv X pins σ H' s2 ∧ RelV x u ∧ J.yld i H x H' ∧ tn (i + 1) s2.heap ∧ ∀ b ∈ fp, H' b = none) E s1) E s
  done : ∀ (X : Cx), X.prog = P → X.w = w → X.K = K → X.calm = true → ∀ (i : Nat) (pins : List (Addr × Obj)) (s : Shared) (σ : St) (H : Hp) (E : Value → Shared → Prop), Inv X pins σ H s → (∀ b ∈ fp, FpOk X pins H b) → tn i s.heap → J.stop i H →
    wpAny (model P w) X.A (pyNext (.ref it)) (fun r s1 => r = none ∧ Inv X pins σ H s1) E s
  self : ∀ (A : Around) (i : Nat) (s : Shared) (Q : Value → Shared → Prop) (E : Value → Shared → Prop), tn i s.heap → Q (.ref it) s → wpAny (model P w) A (pyIter (.ref it)) Q E s
abbrev TI := St → Hp → (It → Hp → Prop) → Prop
/-- an iterator has come -/
def PIE (X : Cx) (pins : List (Addr × Obj)) (σ : St) (tg : Expr) (R : It → Hp → Prop) (itv : Value) (s2 : Shared) : Prop :=
  ∃ (it : Addr) (fp : List Addr) (tn : Nat → Heap → Prop) (J : It) (H' : Hp), itv = .ref it ∧ Inv X pins σ H' s2 ∧ Turn X.prog X.w X.K tg J fp it tn ∧ tn 0 s2.heap ∧ (∀ b ∈ fp, FpOk X pins H' b) ∧ R J H'
def PI (X : Cx) (tg iter : Expr) (wi : TI) : Prop :=
  ∀ (pins : List (Addr × Obj)) (s : Shared) (σ : St) (H : Hp) (R : It → Hp → Prop), Inv X pins σ H s → wi σ H R →
    wpAny (model X.prog X.w) X.A (eval iter X.env) (fun v s1 => wpAny (model X.prog X.w) X.A (pyIter v) (PIE X pins σ tg R) X.xe s1) X.xe s

/-- the step ahead of the store is nothing for an iterator that keeps no tuple -/
theorem go_of {M : Model} {A : Around} {E : Value → Shared → Prop} {s : Shared} {tg : Expr} {it : Addr} {u : Value} {o : Obj} {n : String} {vs : Array Value} {Q : Unit → Shared → Prop} (ho : s.heap.get? it = some o) (hc : o.cls = .type n) (hd : o.data = .fields vs)
    (hn : ["enumerate", "zip", "dict_itemiterator", "dict_reverseitemiterator", "odict_iterator", "itertools.zip_longest", "itertools.pairwise"].contains n = false) (hQ : Q () s) : wpAny M A (letOwnedTupleGo tg (.ref it) u) Q E s := by
  unfold letOwnedTupleGo
  cases tg <;> first
    | exact wpAny_pure hQ
    | (cases u <;> first
        | exact wpAny_pure hQ
        | (refine wpAny_bind (wpAny_load ho ?_)
           rw [hc, hd]
           show wpAny M A (if (["enumerate", "zip", "dict_itemiterator", "dict_reverseitemiterator", "odict_iterator", "itertools.zip_longest", "itertools.pairwise"].contains n && vs[0]? == some (rawInt _)) = true then _ else _) Q E s
           rw [if_neg (by intro h; rw [hn, Bool.false_and] at h; cases h)]
           exact wpAny_pure hQ))

/-- the list at a, as it stands at each turn (a loop may append to it) -/
def Itl (K : PySem.W.Frag) (a : Addr) : It :=
  ⟨fun i H => ∃ xs x, SqL K H a xs ∧ xs[i]? = some x, fun i H x H' => H' = H ∧ ∀ xs, SqL K H a xs → xs[i]? = some x, fun i H => ∃ xs, SqL K H a xs ∧ xs.length ≤ i⟩
theorem turn_list {P : Program} {w : World} {K : PySem.W.Frag} {tg : Expr} (a it : Addr) : Turn P w K tg (Itl K a) [it] it (fun i h => h.IsListIter it a i) where
  mem := by simp
  obj := fun i h st b hb => by
    have e : b = it := by simpa using hb
    subst e
    obtain ⟨o, e, c, d⟩ := st
    exact ⟨o, e, fun v z => by rw [d] at z; cases z⟩
  keep := fun i h h' st k => st.at fun o e => k it (by simp) o e
  item := by
    intro X hP hw hK hc i pins s σ H E I hf st hg
    subst hP hw hK
    obtain ⟨xs, x, hq, hx⟩ := hg
    obtain ⟨its, rv, p, hz⟩ := I.list hq
    obtain ⟨u, hu, ru⟩ := rv.get hx
    obtain ⟨f0, f1, f2, f3, f4, f5⟩ := hf it (by simp)
    refine wpAny_pyNext_list_item st p.isList (x := u) (by simpa using hu) fun h' st' sb => ?_
    have I1 : Inv X pins σ H { s with heap := h' } := I.turned (t' := s.toks) (fun b o hb e => (sb.2 b hb).trans e) f0 f1 f3 f4 f5
    obtain ⟨o, e, c, d⟩ := id st'
    exact ⟨u, rfl, go_of (s := { s with heap := h' }) e c d (by decide) ⟨x, H, I1, ru, ⟨rfl, fun ys hy => by rw [I.list_inj hy hq]; exact hx⟩, st', fun b hb => (hf b hb).1⟩⟩
  done := by
    intro X hP hw hK hc i pins s σ H E I hf st hg
    subst hP hw hK
    obtain ⟨xs, hq, hx⟩ := hg
    obtain ⟨its, rv, p, hz⟩ := I.list hq
    obtain ⟨f0, f1, f2, f3, f4, f5⟩ := hf it (by simp)
    have hl := rv.length
    exact wpAny_pyNext_list_end (I.ok.hd hc) st p.isList (by simp; omega) fun h' eb => ⟨rfl, I.turned (t' := s.toks) (fun b o hb e => eb b o hb e) f0 f1 f3 f4 f5⟩
  self := fun _ _ _ _ _ st h => wpAny_pyIter_listiter st h
end L2

namespace L2
open PySem PySem.Spec PyProof.Rows
section
variable {X : Cx} {tg : Expr}
def iList (K : PySem.W.Frag) (tl : TE) : TI := fun σ H R => tl σ H fun x H1 => ∃ a, x = .ref a ∧ (∃ xs, SqL K H1 a xs) ∧ R (Itl K a) H1
theorem pi_list {l : Expr} {tl : TE} (hl : PE X l tl) : PI X tg l (iList X.K tl) := by
  intro pins s σ H R I h
  refine thn (hl pins s σ H _ I h) fun v s1 ⟨x, H1, I1, r1, q1⟩ => ?_
  obtain ⟨a, e, ⟨xs, hq⟩, q⟩ := q1
  subst e
  cases r1
  obtain ⟨its, rv, p, hz⟩ := I1.list hq
  refine wpAny_pyIter_list p.isList ?_
  refine ⟨s1.heap.objs.size, [s1.heap.objs.size], _, _, H1, rfl, I1.kept (t' := s1.toks) fun b o e => Heap.get?_push_of_some _ e, turn_list a _, ⟨_, Heap.get?_push_size _ rfl, rfl, rfl⟩, fun b hb => ?_, q⟩
  have e : b = s1.heap.objs.size := by simpa using hb
  subst e
  exact I1.fpOk (Nat.le_refl _) (I1.hok.fresh (Nat.le_refl _))
/-- W: the invariant by the turn and a measure; N: what the body is to reach -/
def tFor (wi : TI) (g : TG) (tb : TS) : TS := fun D σ H => wi σ H fun J H1 => ∃ W : Nat → Nat → St → Hp → Prop, (∃ m, W 0 m σ H1) ∧ ∀ i m σ H, W i m σ H →
  (J.stop i H ∧ D.nx σ H) ∨ (J.go i H ∧ ∃ N : St → Hp → Prop, (∀ σ' H', N σ' H' → ∃ m', m' < m ∧ W (i + 1) m' σ' H') ∧ ∀ x H', J.yld i H x H' → g x σ H' fun σ2 H2 => tb { D with nx := N, ct := N, bk := D.nx } σ2 H2)
/-- the records at fp as they stand -/
def pinsAt (fp : List Addr) (h : Heap) : List (Addr × Obj) := fp.filterMap fun b => (h.get? b).map fun o => (b, o)
theorem mem_pinsAt {fp : List Addr} {h : Heap} {b : Addr} {o : Obj} (hb : b ∈ fp) (e : h.get? b = some o) : (b, o) ∈ pinsAt fp h := List.mem_filterMap.mpr ⟨b, hb, by rw [e]; rfl⟩
theorem of_pinsAt {fp : List Addr} {h : Heap} {p : Addr × Obj} (hp : p ∈ pinsAt fp h) : p.1 ∈ fp ∧ h.get? p.1 = some p.2 := by
  obtain ⟨b, hb, e⟩ := List.mem_filterMap.mp hp
  cases q : h.get? b with
  | none => rw [q] at e; cases e
  | some o =>
    rw [q] at e
    have e' : (b, o) = p := Option.some.inj e
    subst e'
    exact ⟨hb, q⟩
theorem Inv.pinned {pins : List (Addr × Obj)} {σ : St} {H : Hp} {s : Shared} {fp : List Addr} (I : Inv X pins σ H s) (hf : ∀ b ∈ fp, FpOk X pins H b) (ho : ∀ b ∈ fp, ∃ o, s.heap.get? b = some o ∧ ∀ v, o.data ≠ .cell v) : Inv X (pins ++ pinsAt fp s.heap) σ H s :=
  I.pins_of fun p hp => (List.mem_append.mp hp).elim (fun z => I.pin p (List.mem_append_right _ z)) fun z => by
    obtain ⟨hb, e⟩ := of_pinsAt z
    obtain ⟨f0, f1, f2, _⟩ := hf p.1 hb
    obtain ⟨o, e', d⟩ := ho p.1 hb
    rw [e] at e'; cases e'
    exact ⟨e, f0, f1, f2, d⟩
theorem Inv.unpinned {pins pl : List (Addr × Obj)} {σ : St} {H : Hp} {s : Shared} (I : Inv X (pins ++ pl) σ H s) : Inv X pins σ H s := I.pins_of fun p hp => I.pin p (List.mem_append_right _ (List.mem_append_left _ hp))
theorem ps_for {iter : Expr} {body : List Stmt} {wi : TI} {g : TG} {tb : TS} {pos : Pos} (hp : PassesOwn (model X.prog X.w) X.A X.env X.xe) (hc : X.calm = true) (hi : PI X tg iter wi) (hg : PG X tg g) (hb : PSs X body tb)
    (hs : ∀ x, foldedSetIterable iter X.env x = pure x := by intro _; rfl) : PS X (.For tg iter body [] pos) (tFor wi g tb) := by
  intro pins s σ H D I h
  refine wpAny_For (thn (hi pins s σ H _ I h) fun v s1 h1 => thn h1 fun itv s2 h2 => ?_) hs
  obtain ⟨it, fp, tn, J, H2, e, I2, T, st2, f2, W, ⟨m0, w0⟩, turn⟩ := h2
  subst e
  -- what stays true of the iterator's objects through the loop
  have stat : ∀ {H' : Hp}, (∀ b ∈ fp, H' b = none) → ∀ b ∈ fp, FpOk X pins H' b := fun hn b hb => ⟨hn b hb, (f2 b hb).2⟩
  refine codeAny_forLoop_any (fun n s' => ∃ i σ' H', Inv X pins σ' H' s' ∧ tn i s'.heap ∧ (∀ b ∈ fp, H' b = none) ∧ W i n σ' H') ?_ m0 ⟨0, σ, H2, I2, st2, fun b hb => (f2 b hb).1, w0⟩
  rintro n s3 ⟨i, σ3, H3, I3, st3, fr3, w3⟩
  rcases turn i n σ3 H3 w3 with ⟨stop, qn⟩ | ⟨go, N, hN, step⟩
  · refine wpAny_passesOwn hp (thn (T.done X rfl rfl rfl hc i pins s3 σ3 H3 X.xe I3 (stat fr3) st3 stop) fun r s4 ⟨hr, I4⟩ => ?_)
    subst hr
    exact wpAny_execs_nil ⟨σ3, H3, I4, qn⟩
  · refine wpAny_passesOwn hp (thn (T.item X rfl rfl rfl hc i pins s3 σ3 H3 X.xe I3 (stat fr3) st3 go) fun r s4 ⟨u, hr, h4⟩ => ?_)
    subst hr
    refine wpAny_passesOwn hp (thn h4 fun _ s5 ⟨x, H5, I5, r5, y5, st5, fr5⟩ => ?_)
    have I5' := I5.pinned (stat fr5) (T.obj _ _ st5)
    refine wpAny_passesOwn hp (thn (hg _ s5 σ3 H5 x u _ I5' r5 (step x H5 y5)) fun _ s6 ⟨σ6, H6, I6, q6⟩ => ?_)
    refine wpAny_passesOwn hp (thn (hb _ s6 σ6 H6 _ I6 q6) fun f s7 q7 => ?_)
    have again : ∀ {σ7 : St} {H7 : Hp}, Inv X (pins ++ pinsAt fp s5.heap) σ7 H7 s7 → N σ7 H7 → ∃ m, m < n ∧ ∃ i σ' H', Inv X pins σ' H' s7 ∧ tn i s7.heap ∧ (∀ b ∈ fp, H' b = none) ∧ W i m σ' H' := fun {σ7 H7} I7 n7 => by
      obtain ⟨m', hm, w7⟩ := hN σ7 H7 n7
      refine ⟨m', hm, i + 1, σ7, H7, I7.unpinned, T.keep _ _ _ st5 fun b hb o e => (I7.pin (b, o) (List.mem_append_right _ (List.mem_append_right _ (mem_pinsAt hb e)))).1, fun b hb => ?_, w7⟩
      obtain ⟨o, e, d⟩ := T.obj _ _ st5 b hb
      exact (I7.pin (b, o) (List.mem_append_right _ (List.mem_append_right _ (mem_pinsAt hb e)))).2.1
    cases f with
    | next => obtain ⟨σ7, H7, I7, n7⟩ := q7; exact again I7 n7
    | cont => obtain ⟨σ7, H7, I7, n7⟩ := q7; exact again I7 n7
    | brk => obtain ⟨σ7, H7, I7, q7⟩ := q7; exact ⟨σ7, H7, I7.unpinned, q7⟩
    | ret v => obtain ⟨x7, σ7, H7, I7, r7, q7⟩ := q7; exact ⟨x7, σ7, H7, I7.unpinned, r7, q7⟩
end

/-- over a list that the body leaves as it is -/
theorem for_list {K : PySem.W.Frag} {a : Addr} {xs : List V} {g : TG} {tb : TS} {D : Ends} {σ : St} {H : Hp} (Pv : Nat → St → Hp → Prop) (h0 : Pv 0 σ H) (hl : ∀ i σ H, i ≤ xs.length → Pv i σ H → SqL K H a xs)
    (hs : ∀ i x σ H, xs[i]? = some x → Pv i σ H → g x σ H fun σ2 H2 => tb { D with nx := Pv (i + 1), ct := Pv (i + 1), bk := D.nx } σ2 H2) (hd : ∀ σ H, Pv xs.length σ H → D.nx σ H) :
    ∃ W : Nat → Nat → St → Hp → Prop, (∃ m, W 0 m σ H) ∧ ∀ i m σ H, W i m σ H →
      ((Itl K a).stop i H ∧ D.nx σ H) ∨ ((Itl K a).go i H ∧ ∃ N : St → Hp → Prop, (∀ σ' H', N σ' H' → ∃ m', m' < m ∧ W (i + 1) m' σ' H') ∧ ∀ x H', (Itl K a).yld i H x H' → g x σ H' fun σ2 H2 => tb { D with nx := N, ct := N, bk := D.nx } σ2 H2) := by
  refine ⟨fun i m σ H => m = xs.length - i ∧ i ≤ xs.length ∧ Pv i σ H, ⟨xs.length, by simp, Nat.zero_le _, h0⟩, ?_⟩
  rintro i m σ H ⟨rfl, hi, p⟩
  have q := hl i σ H hi p
  by_cases hlt : i < xs.length
  · refine .inr ⟨⟨xs, xs[i], q, by simp [hlt]⟩, Pv (i + 1), fun σ' H' p' => ⟨xs.length - (i + 1), by omega, rfl, hlt, p'⟩, fun x H' y => ?_⟩
    obtain ⟨e, y⟩ := y
    subst e
    exact hs i x σ _ (y xs q) p
  · have e : i = xs.length := by omega
    subst e
    exact .inl ⟨⟨xs, q, Nat.le_refl _⟩, hd σ H p⟩
end L2

namespace L2
open PySem PySem.Spec PyProof.Rows

abbrev R2 := V → V → Hp → VK → Prop
/-- a two-place operation on values: f is binaryOp op, inplaceOp op or compareOp op -/
def OpR (X : Cx) (f : Value → Value → Sem Value) (r : R2) : Prop :=
  ∀ (pins : List (Addr × Obj)) (s : Shared) (σ : St) (H : Hp) (x y : V) (v u : Value) (Q : VK), Inv X pins σ H s → RelV x v → RelV y u → r x y H Q →
    wpAny (model X.prog X.w) X.A (f v u) (EP X pins σ Q) X.xe s
/-- a one-place operation -/
def UnR (X : Cx) (f : Value → Sem Value) (r : V → Hp → VK → Prop) : Prop :=
  ∀ (pins : List (Addr × Obj)) (s : Shared) (σ : St) (H : Hp) (x : V) (v : Value) (Q : VK), Inv X pins σ H s → RelV x v → r x H Q →
    wpAny (model X.prog X.w) X.A (f v) (EP X pins σ Q) X.xe s
/-- a call of a value that is known (a builtin, a type) with values -/
def CallR (X : Cx) (f : Value) (r : List V → Hp → VK → Prop) : Prop :=
  ∀ (pins : List (Addr × Obj)) (s : Shared) (σ : St) (H : Hp) (xs : List V) (us : List Value) (Q : VK), Inv X pins σ H s → Vals xs us → r xs H Q →
    wpAny (model X.prog X.w) X.A (call f us) (EP X pins σ Q) X.xe s
/-- a value's truth -/
def TruR (X : Cx) (r : V → Hp → (Bool → Hp → Prop) → Prop) : Prop :=
  ∀ (pins : List (Addr × Obj)) (s : Shared) (σ : St) (H : Hp) (x : V) (v : Value) (Q : Bool → Hp → Prop), Inv X pins σ H s → RelV x v → r x H Q →
    wpAny (model X.prog X.w) X.A (truthy v) (TP X pins σ Q) X.xe s

def tOp (r : R2) (ta tb : TE) : TE := fun σ H Q => ta σ H fun x H1 => tb σ H1 fun y H2 => r x y H2 Q
def tUn (r : V → Hp → VK → Prop) (ta : TE) : TE := fun σ H Q => ta σ H fun x H1 => r x H1 Q
/-- ints in, under C, and a value out -/
def rI (C : Int → Int → Prop) (g : Int → Int → V) : R2 := fun x y H Q => ∃ i j, x = .int i ∧ y = .int j ∧ C i j ∧ Q (g i j) H
def rI0 (g : Int → Int → V) : R2 := fun x y H Q => ∃ i j, x = .int i ∧ y = .int j ∧ Q (g i j) H
def rU (g : Int → V) : V → Hp → VK → Prop := fun x H Q => ∃ i, x = .int i ∧ Q (g i) H

section
variable {X : Cx} {a b c : Expr} {ta tb tc : TE} {pos : Pos}

theorem binT (ha : PE X a ta) (hb : PE X b tb) {pins : List (Addr × Obj)} {s : Shared} {σ : St} {H : Hp} {R : V → V → Hp → Prop} (I : Inv X pins σ H s)
    (h : ta σ H fun x H1 => tb σ H1 fun y H2 => R x y H2) {Q : Value → Shared → Prop} {f : Value → Value → Sem Value}
    (hf : ∀ v u s2 x y H2, Inv X pins σ H2 s2 → RelV x v → RelV y u → R x y H2 → wpAny (model X.prog X.w) X.A (f v u) Q X.xe s2) :
    wpAny (model X.prog X.w) X.A (eval a X.env) (fun v s₁ => wpAny (model X.prog X.w) X.A (eval b X.env) (fun u s₂ => wpAny (model X.prog X.w) X.A (f v u) Q X.xe s₂) X.xe s₁) X.xe s := by
  refine thn (ha pins s σ H _ I h) fun v s1 ⟨x, H1, I1, r1, q1⟩ => ?_
  refine thn (hb pins s1 σ H1 _ I1 q1) fun u s2 ⟨y, H2, I2, r2, q2⟩ => ?_
  exact hf v u s2 x y H2 I2 r1 r2 q2

theorem pe_op {op : Operator} {r : R2} (ho : OpR X (binaryOp op) r) (ha : PE X a ta) (hb : PE X b tb) : PE X (.BinOp a op b pos) (tOp r ta tb) := by
  intro pins s σ H Q I h
  exact wpAny_BinOp (binT ha hb I h fun v u s2 x y H2 I2 rx ry q => ho pins s2 σ H2 x y v u Q I2 rx ry q)
theorem pe_un {op : UnaryOp} {r : V → Hp → VK → Prop} (ho : UnR X (unaryOp op) r) (ha : PE X a ta) : PE X (.UnaryOp op a pos) (tUn r ta) := by
  intro pins s σ H Q I h
  exact UnaryOp_ (thn (ha pins s σ H _ I h) fun v s1 ⟨x, H1, I1, r1, q1⟩ => ho pins s1 σ H1 x v Q I1 r1 q1)
theorem opI {f : Value → Value → Sem Value} {C : Int → Int → Prop} {g : Int → Int → Int}
    (rule : ∀ (i j : Int) (t u : Tok) (s : Shared) (Q : Value → Shared → Prop) (E : Value → Shared → Prop), C i j → Q (.int (g i j) s.toks) { s with toks := s.toks + 1 } → wpAny (model X.prog X.w) X.A (f (.int i t) (.int j u)) Q E s) :
    OpR X f (rI C fun i j => .int (g i j)) := by
  intro pins s σ H x y v u Q I rx ry h
  obtain ⟨i, j, rfl, rfl, hc, q⟩ := h
  obtain ⟨t, rfl⟩ := rx
  obtain ⟨t', rfl⟩ := ry
  exact rule i j t t' s _ _ hc ⟨.int (g i j), H, I.tok _, ⟨_, rfl⟩, q⟩
theorem opI0 {f : Value → Value → Sem Value} {g : Int → Int → Int}
    (rule : ∀ (i j : Int) (t u : Tok) (s : Shared) (Q : Value → Shared → Prop) (E : Value → Shared → Prop), Q (.int (g i j) s.toks) { s with toks := s.toks + 1 } → wpAny (model X.prog X.w) X.A (f (.int i t) (.int j u)) Q E s) :
    OpR X f (rI0 fun i j => .int (g i j)) := by
  intro pins s σ H x y v u Q I rx ry h
  obtain ⟨i, j, rfl, rfl, q⟩ := h
  obtain ⟨t, rfl⟩ := rx
  obtain ⟨t', rfl⟩ := ry
  exact rule i j t t' s _ _ ⟨.int (g i j), H, I.tok _, ⟨_, rfl⟩, q⟩
theorem opB0 {f : Value → Value → Sem Value} {g : Int → Int → Bool}
    (rule : ∀ (i j : Int) (t u : Tok) (s : Shared) (Q : Value → Shared → Prop) (E : Value → Shared → Prop), Q (.bool (g i j)) s → wpAny (model X.prog X.w) X.A (f (.int i t) (.int j u)) Q E s) :
    OpR X f (rI0 fun i j => .bl (g i j)) := by
  intro pins s σ H x y v u Q I rx ry h
  obtain ⟨i, j, rfl, rfl, q⟩ := h
  obtain ⟨t, rfl⟩ := rx
  obtain ⟨t', rfl⟩ := ry
  exact rule i j t t' s _ _ ⟨.bl (g i j), H, I, rfl, q⟩

def CDiv (i j : Int) : Prop := 0 < j ∧ j < 1073741824
def CMul (i j : Int) : Prop := (-(2 ^ 64) < i ∧ i < 2 ^ 64) ∨ (-(2 ^ 64) < j ∧ j < 2 ^ 64)
theorem CMul.ok {i j : Int} (h : CMul i j) : IntMulOk i j := by
  rcases h with ⟨h1, h2⟩ | ⟨h1, h2⟩
  · exact .of_left (intBits_le_64 h1 h2)
  · exact .of_right (intBits_le_64 h1 h2)
theorem two_pow_nn (k : Nat) : (0 : Int) ≤ 2 ^ k := by
  rw [two_pow_cast]
  exact Int.natCast_nonneg _

theorem op_add : OpR X (binaryOp .Add) (rI0 fun i j => .int (i + j)) := opI0 fun _ _ _ _ _ _ _ q => add_int q
theorem op_sub : OpR X (binaryOp .Sub) (rI0 fun i j => .int (i - j)) := opI0 fun _ _ _ _ _ _ _ q => sub_int q
theorem op_mul : OpR X (binaryOp .Mult) (rI CMul fun i j => .int (i * j)) := opI fun _ _ _ _ _ _ _ hc q => mul_int q hc.ok
/-- // by a positive divisor -/
theorem op_fdiv : OpR X (binaryOp .FloorDiv) (rI CDiv fun i j => .int (i / j)) := opI fun i j _ _ _ _ _ hc q => by
  have h1 : (0 : Int) < j := hc.1
  have h2 : j < 1073741824 := hc.2
  exact floordiv_int (by omega) (by rw [Int.fdiv_eq_ediv_of_nonneg i (by omega)]; exact q) (.inl (PyProof.noPylong_small (by omega)))
/-- % by a positive divisor of any size -/
theorem op_mod : OpR X (binaryOp .Mod) (rI (fun _ j => 0 < j) fun i j => .int (i % j)) := opI fun i j _ _ _ _ _ hc q => by
  have h1 : (0 : Int) < j := hc
  exact mod_int' (by omega) (by rw [Int.fmod_eq_emod_of_nonneg i (by omega)]; exact q)
theorem op_shr : OpR X (binaryOp .RShift) (rI (fun _ j => 0 ≤ j) fun i j => .int (i / 2 ^ j.toNat)) := opI fun i j _ _ _ _ _ hc q =>
  rshift_int hc (by rw [Int.fdiv_eq_ediv_of_nonneg i (two_pow_nn _)]; exact q)
theorem op_and : OpR X (binaryOp .BitAnd) (rI0 fun i j => .int (Builtin.bitAnd i j)) := opI0 fun _ _ _ _ _ _ _ q => and_int q
theorem unI {f : Value → Sem Value} {g : Int → Int}
    (rule : ∀ (i : Int) (t : Tok) (s : Shared) (Q : Value → Shared → Prop) (E : Value → Shared → Prop), Q (.int (g i) s.toks) { s with toks := s.toks + 1 } → wpAny (model X.prog X.w) X.A (f (.int i t)) Q E s) :
    UnR X f (rU fun i => .int (g i)) := by
  intro pins s σ H x v Q I rx h
  obtain ⟨i, rfl, q⟩ := h
  obtain ⟨t, rfl⟩ := rx
  exact rule i t s _ _ ⟨.int (g i), H, I.tok _, ⟨_, rfl⟩, q⟩
theorem un_neg : UnR X (unaryOp .USub) (rU fun i => .int (-i)) := unI fun _ _ _ _ _ q => neg_int q
end

/-- the scalars that == tells apart as data does -/
def scal : V → V → Bool
  | .non, .non => true | .non, .int _ => true | .int _, .non => true | .non, .bl _ => true | .bl _, .non => true | .non, .str _ => true | .str _, .non => true
  | .int _, .int _ => true | .bl _, .bl _ => true | .str _, .str _ => true | .byt _, .byt _ => true
  | .int _, .str _ => true | .str _, .int _ => true | .bl _, .str _ => true | .str _, .bl _ => true
  | _, _ => false
def rEq : R2 := fun x y H Q => scal x y = true ∧ Q (.bl (decide (x = y))) H
def rNe : R2 := fun x y H Q => scal x y = true ∧ Q (.bl (!decide (x = y))) H

theorem dec_int {i j : Int} : decide (V.int i = V.int j) = (i == j) := by
  rw [Bool.eq_iff_iff]
  simp
theorem dec_bl {i j : Bool} : decide (V.bl i = V.bl j) = (i == j) := by
  rw [Bool.eq_iff_iff]
  simp
theorem dec_str {i j : Str} : decide (V.str i = V.str j) = (i == j) := by
  rw [Bool.eq_iff_iff]
  simp
theorem dec_byt {i j : Array UInt8} : decide (V.byt i = V.byt j) = (i.toList == j.toList) := by
  rw [Bool.eq_iff_iff]
  cases i
  cases j
  simp

section
variable {X : Cx} {a b c : Expr} {ta tb tc : TE} {pos : Pos}
theorem fin_bl {pins : List (Addr × Obj)} {σ : St} {H : Hp} {s : Shared} {Q : VK} {k k' : Bool} (I : Inv X pins σ H s) (q : Q (.bl k) H) (e : k = k') : EP X pins σ Q (.bool k') s := by
  subst e
  exact ⟨.bl k, H, I, rfl, q⟩
theorem op_eq : OpR X (compareOp .Eq) rEq := by
  intro pins s σ H x y v u Q I rx ry h
  obtain ⟨hs, q⟩ := h
  cases x with
  | non =>
    cases rx
    cases y with
    | non => cases ry; exact PySem.EqNone.eq_none_none (fin_bl I q (by simp))
    | bl j => cases ry; exact PySem.EqNone.eq_none_bool (fin_bl I q (by simp))
    | int j => obtain ⟨t', rfl⟩ := ry; exact PySem.EqNone.eq_none_int (fin_bl I q (by simp))
    | str j => obtain ⟨t', rfl⟩ := ry; exact PySem.EqNone.eq_none_str (fin_bl I q (by simp))
    | _ => exact absurd (show false = true from hs) Bool.false_ne_true
  | bl i =>
    cases rx
    cases y with
    | non => cases ry; exact PySem.EqNone.eq_bool_none (fin_bl I q (by simp))
    | bl j => cases ry; exact eq_bool (fin_bl I q dec_bl)
    | str j => obtain ⟨t', rfl⟩ := ry; exact PySem.EqMixed.eq_bool_str (fin_bl I q (by simp))
    | _ => exact absurd (show false = true from hs) Bool.false_ne_true
  | int i =>
    obtain ⟨t, rfl⟩ := rx
    cases y with
    | non => cases ry; exact PySem.EqNone.eq_int_none (fin_bl I q (by simp))
    | int j => obtain ⟨t', rfl⟩ := ry; exact eq_int (fin_bl I q dec_int)
    | str j => obtain ⟨t', rfl⟩ := ry; exact PySem.EqMixed.eq_int_str (fin_bl I q (by simp))
    | _ => exact absurd (show false = true from hs) Bool.false_ne_true
  | str i =>
    obtain ⟨t, rfl⟩ := rx
    cases y with
    | non => cases ry; exact PySem.EqNone.eq_str_none (fin_bl I q (by simp))
    | bl j => cases ry; exact PySem.EqMixed.eq_str_bool (fin_bl I q (by simp))
    | int j => obtain ⟨t', rfl⟩ := ry; exact PySem.EqMixed.eq_str_int (fin_bl I q (by simp))
    | str j => obtain ⟨t', rfl⟩ := ry; exact eq_str (fin_bl I q dec_str)
    | _ => exact absurd (show false = true from hs) Bool.false_ne_true
  | byt i =>
    obtain ⟨t, rfl⟩ := rx
    cases y with
    | byt j => obtain ⟨t', rfl⟩ := ry; exact PySem.W.eq_bytes (fin_bl I q dec_byt)
    | _ => exact absurd (show false = true from hs) Bool.false_ne_true
  | _ => cases y <;> exact absurd (show false = true from hs) Bool.false_ne_true
theorem op_ne : OpR X (compareOp .NotEq) rNe := by
  intro pins s σ H x y v u Q I rx ry h
  obtain ⟨hs, q⟩ := h
  cases x with
  | non =>
    cases rx
    cases y with
    | non => cases ry; exact PySem.EqNone.ne_none_none (fin_bl I q (by simp))
    | bl j => cases ry; exact PySem.EqNone.ne_none_bool (fin_bl I q (by simp))
    | int j => obtain ⟨t', rfl⟩ := ry; exact PySem.EqNone.ne_none_int (fin_bl I q (by simp))
    | str j => obtain ⟨t', rfl⟩ := ry; exact PySem.EqNone.ne_none_str (fin_bl I q (by simp))
    | _ => exact absurd (show false = true from hs) Bool.false_ne_true
  | bl i =>
    cases rx
    cases y with
    | non => cases ry; exact PySem.EqNone.ne_bool_none (fin_bl I q (by simp))
    | bl j => cases ry; exact ne_bool (fin_bl I q (congrArg not dec_bl))
    | str j => obtain ⟨t', rfl⟩ := ry; exact PySem.EqMixed.ne_bool_str (fin_bl I q (by simp))
    | _ => exact absurd (show false = true from hs) Bool.false_ne_true
  | int i =>
    obtain ⟨t, rfl⟩ := rx
    cases y with
    | non => cases ry; exact PySem.EqNone.ne_int_none (fin_bl I q (by simp))
    | int j => obtain ⟨t', rfl⟩ := ry; exact ne_int (fin_bl I q (congrArg not dec_int))
    | str j => obtain ⟨t', rfl⟩ := ry; exact PySem.EqMixed.ne_int_str (fin_bl I q (by simp))
    | _ => exact absurd (show false = true from hs) Bool.false_ne_true
  | str i =>
    obtain ⟨t, rfl⟩ := rx
    cases y with
    | non => cases ry; exact PySem.EqNone.ne_str_none (fin_bl I q (by simp))
    | bl j => cases ry; exact PySem.EqMixed.ne_str_bool (fin_bl I q (by simp))
    | int j => obtain ⟨t', rfl⟩ := ry; exact PySem.EqMixed.ne_str_int (fin_bl I q (by simp))
    | str j => obtain ⟨t', rfl⟩ := ry; exact ne_str (fin_bl I q (congrArg not dec_str))
    | _ => exact absurd (show false = true from hs) Bool.false_ne_true
  | byt i =>
    obtain ⟨t, rfl⟩ := rx
    cases y with
    | byt j => obtain ⟨t', rfl⟩ := ry; exact PySem.W.ne_bytes (fin_bl I q (congrArg not dec_byt))
    | _ => exact absurd (show false = true from hs) Bool.false_ne_true
  | _ => cases y <;> exact absurd (show false = true from hs) Bool.false_ne_true

theorem op_lt : OpR X (compareOp .Lt) (rI0 fun i j => .bl (decide (i < j))) := opB0 fun _ _ _ _ _ _ _ q => lt_int q
theorem nomark (b : Expr) {op : CmpOp} (h : op ≠ .In := by decide) (h2 : op ≠ .NotIn := by decide) : behindInMarks op b = false := by
  have e1 : (op == CmpOp.In) = false := by cases op <;> first | rfl | exact absurd rfl h
  have e2 : (op == CmpOp.NotIn) = false := by cases op <;> first | rfl | exact absurd rfl h2
  cases b <;> simp [behindInMarks, e1, e2]
/-- a comparison as a value; hm: nomark b, or (for in, not in) by with_unfolding_all rfl -/
theorem pe_cmpR {op : CmpOp} {r : R2} (ho : OpR X (compareOp op) r) (ha : PE X a ta) (hb : PE X b tb) (hm : behindInMarks op b = false) : PE X (.Compare a [op] [b] pos) (tOp r ta tb) := by
  intro pins s σ H Q I h
  exact wpAny_Compare1 (binT ha hb I h fun v u s2 x y H2 I2 rx ry q => ho pins s2 σ H2 x y v u Q I2 rx ry q) hm
/-- a reading of a value as a test -/
def tTest (t : TE) : TT := fun σ H Q => t σ H fun x H' => ∃ k, x = .bl k ∧ Q k H'
theorem pt_cmpR {op : CmpOp} {r : R2} (ho : OpR X (compareOp op) r) (ha : PE X a ta) (hb : PE X b tb) (hm : behindInMarks op b = false) : PT X (.Compare a [op] [b] pos) (tTest (tOp r ta tb)) := by
  intro pins s σ H Q I h
  refine wpAny_isTrue_Compare1 (thn (ha pins s σ H _ I h) fun v s1 ⟨x, H1, I1, r1, q1⟩ => thn (hb pins s1 σ H1 _ I1 q1) fun u s2 ⟨y, H2, I2, r2, q2⟩ =>
    thn (ho pins s2 σ H2 x y v u _ I2 r1 r2 q2) fun c s3 ⟨z, H3, I3, r3, k, e, q3⟩ => ?_) hm
  subst e
  cases r3
  exact wpAny_truthy_bool ⟨H3, I3, q3⟩
/-- a value's truth by the abstract heap -/
def TruV (K : PySem.W.Frag) (x : V) (H : Hp) (k : Bool) : Prop :=
  match x with
  | .non => k = false
  | .bl b => k = b
  | .int i => k = (i != 0)
  | .str y => y.length ≤ sizeLine ∧ k = ((y.length : Int) != 0)
  | .byt y => y.size ≤ sizeLine ∧ k = ((y.size : Int) != 0)
  | .ref p => (∃ xs, SqL K H p xs ∧ k = !xs.isEmpty) ∨ (∃ xs, SqT K H p xs ∧ k = !xs.isEmpty) ∨ ∃ kvs, H p = some (.dK kvs) ∧ k = !kvs.isEmpty
  | _ => False
theorem isEmpty_kv {κ : Type} {kvs : List (κ × V)} {vs : List (κ × Value)} (r : KV kvs vs) : (!vs.isEmpty) = !kvs.isEmpty := by
  cases r <;> rfl
theorem isEmpty_of {xs : List V} {its : List Value} (r : Vals xs its) : (!its.toArray.isEmpty) = !xs.isEmpty := by
  cases r <;> simp
theorem line63 : (sizeLine : Nat) < 2 ^ 63 := by rw [sizeLine_eq]; decide
theorem tru_ok : TruR X (fun x H Q => ∃ k, TruV X.K x H k ∧ Q k H) := by
  intro pins s σ H x v Q I rx h
  obtain ⟨k, e, q⟩ := h
  have hl := line63
  have hs : sizeLine = 16777216 := sizeLine_eq
  cases x with
  | non =>
    cases rx
    have e' : k = false := e
    subst e'
    exact truthy_none ⟨H, I, q⟩
  | bl b =>
    cases rx
    have e' : k = b := e
    subst e'
    exact wpAny_truthy_bool ⟨H, I, q⟩
  | int i =>
    obtain ⟨t, rfl⟩ := rx
    have e' : k = (i != 0) := e
    subst e'
    exact PySem.P.truthy_int ⟨H, I, q⟩
  | str y =>
    obtain ⟨t, rfl⟩ := rx
    obtain ⟨hy, e'⟩ : y.length ≤ sizeLine ∧ k = ((y.length : Int) != 0) := e
    subst e'
    exact PySem.P.truthy_str (by omega) ⟨H, I.tok _, q⟩
  | byt y =>
    obtain ⟨t, rfl⟩ := rx
    obtain ⟨hy, e'⟩ : y.size ≤ sizeLine ∧ k = ((y.size : Int) != 0) := e
    subst e'
    exact PySem.W.truthy_bytes (by omega) ⟨H, I.tok _, q⟩
  | ref p =>
    cases rx
    have e' : (∃ xs, SqL X.K H p xs ∧ k = !xs.isEmpty) ∨ (∃ xs, SqT X.K H p xs ∧ k = !xs.isEmpty) ∨ ∃ kvs, H p = some (.dK kvs) ∧ k = !kvs.isEmpty := e
    rcases e' with ⟨xs, hx, e'⟩ | ⟨xs, hx, e'⟩ | ⟨kvs, hx, e'⟩
    · subst e'
      obtain ⟨its, r, pl, hz⟩ := I.list hx
      have hlen := r.length
      exact wpAny_truthy_list pl.isList (by simp only [List.size_toArray]; omega) ⟨H, I.tok _, by rw [isEmpty_of r]; exact q⟩
    · subst e'
      obtain ⟨its, r, pl, hz⟩ := I.tuple hx
      have hlen := r.length
      exact truthy_tuple pl (by simp only [List.size_toArray]; omega) ⟨H, I.tok _, by rw [isEmpty_of r]; exact q⟩
    · subst e'
      obtain ⟨hz, hS, vs, r, m⟩ : kvs.length ≤ sizeLine ∧ (p == sysModules) = false ∧ ∃ vs, KV kvs vs ∧ s.heap.DictOf (mixKind X.prog X.w) p vs := I.hok p _ hx
      have hlen : kvs.length = vs.length := Paired.length r
      exact wpAny_truthy_dict hS m (by omega) ⟨H, I.tok _, by rw [isEmpty_kv r]; exact q⟩
  | _ => exact (show False from e).elim
/-- any expression whose test is its value's truth (a name, a call, a subscript, a field ..: he by fun _ => rfl) -/
theorem pt_truth (ha : PE X a ta) (he : ∀ whole, isTrue a X.env whole = (do let v ← whole; standAt a.pos; holding [v] (truthy v))) :
    PT X a (fun σ H Q => ta σ H fun x H' => ∃ k, TruV X.K x H' k ∧ Q k H') := by
  intro pins s σ H Q I h
  exact isTrue_plain (thn (ha pins s σ H _ I h) fun v s1 ⟨x, H1, I1, r1, q1⟩ => tru_ok pins s1 σ H1 x v Q I1 r1 q1) (he _)

theorem op_add_str : OpR X (binaryOp .Add) (fun x y H Q => ∃ i j, x = .str i ∧ y = .str j ∧ i.length + j.length ≤ sizeLine ∧ Q (.str (i ++ j)) H) := by
  intro pins s σ H x y v u Q I rx ry h
  obtain ⟨i, j, rfl, rfl, hz, q⟩ := h
  obtain ⟨t, rfl⟩ := rx
  obtain ⟨t', rfl⟩ := ry
  exact add_str (fun t' tk => ⟨.str (i ++ j), H, I.tok _, ⟨_, rfl⟩, q⟩) hz
theorem vals1 {x : V} {us : List Value} (r : Vals [x] us) : ∃ u, us = [u] ∧ RelV x u := by
  cases r with
  | cons r1 r2 => cases r2; exact ⟨_, rfl, r1⟩
theorem vals2 {x y : V} {us : List Value} (r : Vals [x, y] us) : ∃ u w', us = [u, w'] ∧ RelV x u ∧ RelV y w' := by
  cases r with
  | cons r1 r2 =>
    cases r2 with
    | cons r3 r4 => cases r4; exact ⟨_, _, rfl, r1, r3⟩
theorem call_max2 (hc : X.calm = true) : CallR X (.builtin "max") (fun xs H Q => ∃ i j, xs = [.int i, .int j] ∧ Q (.int (if j > i then j else i)) H) := by
  intro pins s σ H xs us Q I r h
  obtain ⟨i, j, rfl, q⟩ := h
  obtain ⟨u, w', rfl, ⟨t, rfl⟩, ⟨t', rfl⟩⟩ := vals2 r
  refine max_two_ints (I.ok.hd hc) fun h' tk k => ⟨_, H, I.kept k, ?_, q⟩
  by_cases hj : j > i
  · rw [if_pos hj, if_pos hj]; exact ⟨_, rfl⟩
  · rw [if_neg hj, if_neg hj]; exact ⟨_, rfl⟩
theorem call_int1 : CallR X (.type "int") (fun xs H Q => (∃ i, xs = [.int i] ∧ Q (.int i) H) ∨ ∃ k, xs = [.bl k] ∧ Q (.int (if k then 1 else 0)) H) := by
  intro pins s σ H xs us Q I r h
  rcases h with ⟨i, rfl, q⟩ | ⟨k, rfl, q⟩
  · obtain ⟨u, rfl, t, rfl⟩ := vals1 r
    exact call_int_int ⟨.int i, H, I, ⟨_, rfl⟩, q⟩
  · obtain ⟨u, rfl, r1⟩ := vals1 r
    cases r1
    exact call_int_bool ⟨.int (if k then 1 else 0), H, I.tok _, ⟨_, rfl⟩, q⟩
end
end L2

namespace L2
open PySem PySem.Spec PyProof.Rows

structure ObjM (h : Heap) (x dx C : Addr) (mA : Str → Option Value) : Prop where
  obj : h.get? x = some (PySem.W.instObj C dx)
  ns : h.Ns1 dx mA
  ne : dx ≠ x

theorem lookIn_ns {h : Heap} {dx : Addr} {mA : Str → Option Value} (n : h.Ns1 dx mA) : ∃ od, h.get? dx = some od ∧ ∀ name, PySem.W.lookIn name od = some (mA name) := by
  obtain ⟨o, es, ep, ho, hd, hk, _, hm⟩ := n
  refine ⟨o, ho, fun name => ?_⟩
  have e := hm name
  unfold nsFind findBy at e
  rw [← Array.find?_toList] at e
  unfold PySem.W.lookIn
  rw [hd]
  dsimp only
  split
  · rename_i y q
    rw [q] at e
    exact congrArg some e
  · rename_i q
    rw [q] at e
    have a : es.toList.any (·.refKey) = false := by
      rw [List.any_eq_false]
      intro y hy
      obtain ⟨z, t, hkey⟩ := hk y (Array.mem_toList_iff.mp hy)
      simp [DictEntry.refKey, hkey]
    have a' : ¬ es.toList.any (·.refKey) = true := by rw [a]; exact Bool.false_ne_true
    rw [if_neg a']
    exact congrArg some e

theorem ObjM.look {h : Heap} {x dx C : Addr} {mA : Str → Option Value} (I : ObjM h x dx C mA) : ∃ od, PySem.W.InstAt h x (PySem.W.instObj C dx) C (some od) ∧ ∀ name, PySem.W.lookIn name od = some (mA name) :=
  let ⟨od, ho, hl⟩ := lookIn_ns I.ns
  ⟨od, ⟨I.obj, rfl, rfl, ho⟩, hl⟩

section
variable {P : Program} {w : World} {H H' : Hp} {h h' : Heap} {a C dx : Addr} {fs fs' : List (Str × V)}
theorem ins_get (hok : HOk P w H h) (e : H a = some (.ins C dx fs)) : ∃ mA, ObjM h a dx C mA ∧ (∀ f, RelO (fs.lookup f) (mA f)) ∧ PySem.Within mA (fs.map (·.1)) ∧ fs.length ≤ 1000 ∧ H dx = some (.own a) := by
  obtain ⟨d, z, ne, ob, mA, n, r, q⟩ := (show ObjOk P w H h a (.ins C dx fs) from hok a _ e)
  exact ⟨mA, ⟨ob, n, ne⟩, r, q, z, d⟩
end

structure Cls (K : PySem.W.Frag) (C : Addr) : Prop where
  pg : PySem.W.plainGet K C Str.empty = true
  hd : PySem.W.hasDictIn K C = true
  po : PySem.W.plainOver K C = true
  sa : PySem.W.findIn K (.ref C) "__setattr__" = some (some (.builtin "object.__setattr__"))
theorem Cls.get {K : PySem.W.Frag} {C : Addr} (c : Cls K C) (f : Str) : PySem.W.plainGet K C f = true := c.pg
section
variable {X : Cx} {pins : List (Addr × Obj)} {σ : St} {H : Hp} {s : Shared} {A : Around} {E : Value → Shared → Prop} {Q : Value → Shared → Prop} {c : Value} {b : Bool}
/-- the type of a value, as the fragment's deciders take it; for an instance its class -/
inductive TyOf (K : PySem.W.Frag) (H : Hp) : V → Value → Prop where
  | non : TyOf K H .non (.type "NoneType")
  | bl (x : Bool) : TyOf K H (.bl x) (.type "bool")
  | int (i : Int) : TyOf K H (.int i) (.type "int")
  | str (x : Str) : TyOf K H (.str x) (.type "str")
  | flt (x : UInt64) : TyOf K H (.flt x) (.type "float")
  | lst {a : Addr} {xs : List V} (e : H a = some (.lst xs)) : TyOf K H (.ref a) (.type "list")
  | frz {a : Addr} {o : Obj} {xs : List V} (e : H a = some (.frz o (.lst xs))) : TyOf K H (.ref a) (.type "list")
  | tup {a : Addr} {xs : List V} (e : H a = some (.tup xs)) : TyOf K H (.ref a) (.type "tuple")
  | dK {a : Addr} {kvs : List (Key × V)} (e : H a = some (.dK kvs)) : TyOf K H (.ref a) (.type "dict")
  | dT {a : Addr} {kvs : List (List Key × V)} (e : H a = some (.dT kvs)) : TyOf K H (.ref a) (.type "dict")
  | ins {a C dx : Addr} {fs : List (Str × V)} (e : H a = some (.ins C dx fs)) (cl : Cls K C) (ha : PySem.W.findIn K (.ref C) "__class__" = some (some (.builtin "object.__class__")))
      (hn : PySem.W.specialIn K (.builtin "object.__class__") "__get__" = some (some (.builtin "getset_descriptor.__get__"))) (htk : PySem.W.takesIn K (.builtin "object.__class__") = some true)
      (hm : PySem.W.mroIn K C (.type "object") = some true) : TyOf K H (.ref a) (.ref C)
/-- isinstance(x, c) for one class c, a built-in or an own one: kitOne's answer -/
theorem isinst_ok {x : V} {u t : Value} (I : Inv X pins σ H s) (rx : RelV x u) (ty : TyOf X.K H x t) (e : PySem.W.kitOne X.K t c = some b) (h : ∀ tk, Q (.bool b) { s with toks := tk }) :
    wpAny (model X.prog X.w) A (call (.builtin "isinstance") [u, c]) Q E s := by
  cases ty with
  | non => cases (show u = Value.none from rx); exact PySem.W.kia_one PySem.W.kitx_none I.kIn True.intro e (fun z => nomatch z) h
  | bl y => cases (show u = Value.bool y from rx); exact PySem.W.kia_one PySem.W.kitx_bool I.kIn True.intro e (fun z => nomatch z) h
  | int i => obtain ⟨t, q⟩ := (show ∃ t, u = Value.int i t from rx); cases q; exact PySem.W.kia_one PySem.W.kitx_int I.kIn True.intro e (fun z => nomatch z) h
  | str y => obtain ⟨t, q⟩ := (show ∃ t, u = Value.str y t from rx); cases q; exact PySem.W.kia_one PySem.W.kitx_str I.kIn True.intro e (fun z => nomatch z) h
  | flt y => obtain ⟨t, q⟩ := (show ∃ t, u = Value.float y t from rx); cases q; exact PySem.W.kia_one PySem.W.kitx_float I.kIn True.intro e (fun z => nomatch z) h
  | @lst a xs ea =>
    cases (show u = Value.ref a from rx)
    obtain ⟨_, _, n, _, h1⟩ := (show ObjOk X.prog X.w H s.heap a (.lst xs) from I.hok a _ ea)
    exact PySem.W.kia_one PySem.W.kitx_list I.kIn ⟨_, h1, rfl⟩ e (fun z => nomatch z) h
  | @frz a ob xs ea =>
    cases (show u = Value.ref a from rx)
    obtain ⟨_, _, _, n, _, h1⟩ := (show ObjOk X.prog X.w H s.heap a (.frz ob (.lst xs)) from I.hok a _ ea)
    exact PySem.W.kia_one PySem.W.kitx_list I.kIn ⟨_, h1, rfl⟩ e (fun z => nomatch z) h
  | @tup a xs ea =>
    cases (show u = Value.ref a from rx)
    obtain ⟨_, _, _, p⟩ := (show ObjOk X.prog X.w H s.heap a (.tup xs) from I.hok a _ ea)
    obtain ⟨o, h1, h2, _⟩ := p
    exact PySem.W.kia_one PySem.W.kitx_tuple I.kIn ⟨o, h1, h2⟩ e (fun z => nomatch z) h
  | @dK a kvs ea =>
    cases (show u = Value.ref a from rx)
    obtain ⟨_, _, vs, _, p⟩ := (show ObjOk X.prog X.w H s.heap a (.dK kvs) from I.hok a _ ea)
    obtain ⟨o, es, ep, h1, h2, _⟩ := p
    exact PySem.W.kia_one PySem.W.kitx_dict I.kIn ⟨o, h1, h2.1⟩ e (fun z => nomatch z) h
  | @dT a kvs ea =>
    cases (show u = Value.ref a from rx)
    obtain ⟨_, _, xs, _, o, es, ep, h1, h2, _⟩ := (show ObjOk X.prog X.w H s.heap a (.dT kvs) from I.hok a _ ea)
    exact PySem.W.kia_one PySem.W.kitx_dict I.kIn ⟨o, h1, h2.1⟩ e (fun z => nomatch z) h
  | @ins a C dx fs ea cl ha hn htk hm =>
    cases (show u = Value.ref a from rx)
    obtain ⟨mA, O, _⟩ := ins_get I.hok ea
    obtain ⟨od, J, _⟩ := O.look
    exact PySem.W.kia_one (PySem.W.kitx_own (cl.get _) cl.hd ha hn htk hm) I.kIn J e (fun z => nomatch z) h
end
end L2

namespace L2
open PySem PySem.Spec PyProof.Rows

structure Room (k : Nat) (A : Around) : Prop where
  hd : A.handled = none
  dp : A.depth + 3 * k + 5 < recursionLimit
  un : A.units + 16 * k + 200 < cLine
theorem Room.mono {j k : Nat} {A : Around} (r : Room k A) (h : j ≤ k) : Room j A := ⟨r.hd, by have := r.dp; omega, by have := r.un; omega⟩
theorem Room.deeper {k : Nat} {A : Around} (r : Room (k + 1) A) (env : Env) : Room k (A.deeper env) :=
  ⟨r.hd, by have := r.dp; show A.depth + 1 + 3 * k + 5 < _; omega, by have := r.un; show A.units + 3 + 16 * k + 200 < _; omega⟩
theorem Room.depth {k : Nat} {A : Around} (r : Room k A) : A.depth < recursionLimit := by have := r.dp; omega
theorem Room.units {k : Nat} {A : Around} (r : Room k A) : A.units + 64 < cLine := by have := r.un; omega
theorem Room.units0 {k : Nat} {A : Around} (r : Room k A) : A.units < cLine := by have := r.un; omega

def tNil : TA := fun _ H Q => Q [] H
def tCons (ta : TE) (tr : TA) : TA := fun σ H Q => ta σ H fun x H1 => tr σ H1 fun xs H2 => Q (x :: xs) H2
section
variable {X : Cx} {e : Expr} {es : List Expr} {te : TE} {t : TA} {pos : Pos}
theorem pa_nil : PA X [] tNil := fun _ _ _ _ H Q I h => Calls.spliced_nil ⟨[], H, I, .nil, h⟩
theorem pa_cons (ha : PE X e te) (hr : PA X es t) (hs : starEach (e :: es) X.env = (false, eval e X.env) :: starEach es X.env := by rfl) : PA X (e :: es) (tCons te t) := by
  intro pos pins s σ H Q I h
  rw [hs]
  show wpAny _ _ (spliced ((false, eval e X.env) :: backTo pos (starEach es X.env))) _ _ s
  refine Calls.spliced_cons (thn (ha pins s σ H _ I h) fun u s1 ⟨x, H1, I1, r1, q1⟩ => ?_)
  exact thn (hr pos pins s1 σ H1 _ I1 q1) fun us s2 ⟨xs, H2, I2, r2, q2⟩ => ⟨x :: xs, H2, I2, .cons r1 r2, q2⟩

/-- a tuple, a list of written items -/
def tTup (t : TA) : TE := fun σ H Q => t σ H fun xs H1 => xs.length ≤ sizeLine ∧ ∀ p, H1 p = none → Q (.ref p) (upd H1 p (.tup xs))
def tLst (t : TA) : TE := fun σ H Q => t σ H fun xs H1 => xs.length ≤ sizeLine ∧ ∀ p, H1 p = none → Q (.ref p) (upd H1 p (.lst xs))
theorem pe_tup {x1} (h : PA X es t) : PE X (.Tuple es x1 pos) (tTup t) := by
  intro pins s σ H Q I hq
  refine wpAny_Tuple_spliced (thn (h pos pins s σ H _ I hq) fun us s1 ⟨xs, H1, I1, r, z, q⟩ => ⟨by rw [← r.length]; exact z, ?_⟩)
  have hf : H1 s1.heap.objs.size = none := I1.hok.fresh (Nat.le_refl _)
  refine ⟨.ref s1.heap.objs.size, upd H1 s1.heap.objs.size (.tup xs), I1.laid (t' := s1.toks) (fun b u e => Heap.get?_push_of_some _ e) (Nat.le_refl _) ?_, rfl, q _ hf⟩
  exact ⟨z, us, r, ⟨_, Heap.get?_push_size _ rfl, rfl, _, rfl⟩⟩
theorem pe_lst (h : PA X es t) : PE X (.List es pos) (tLst t) := by
  intro pins s σ H Q I hq
  refine wpAny_List_spliced (thn (h pos pins s σ H _ I hq) fun us s1 ⟨xs, H1, I1, r, z, q⟩ => ⟨by rw [← r.length]; exact z, ?_⟩)
  have hf : H1 s1.heap.objs.size = none := I1.hok.fresh (Nat.le_refl _)
  refine ⟨.ref s1.heap.objs.size, upd H1 s1.heap.objs.size (.lst xs), I1.laid (t' := s1.toks) (fun b u e => Heap.get?_push_of_some _ e) (Nat.le_refl _) ?_, rfl, q _ hf⟩
  exact ⟨z, us, 0, r, Heap.get?_push_size _ rfl⟩
end

/-- a def's promise: the bound arguments in the parameters' order, the heap, the wanted end, the wanted exception -/
abbrev Sp := List V → Hp → VK → XK → Prop
/-- how an exception lies behind a call (file 08 gives it): the callers' frames, abstract heap and state ahead of the call, the wish, the exception, the state -/
abbrev CXT := List Env → Hp → Shared → XK → Value → Shared → Prop

/-- the state at a call -/
structure Env0 (P : Program) (w : World) (K : PySem.W.Frag) (mg : Str → Option Value) (base : Heap) (A : Around) (outer : List Env) (s : Shared) (H : Hp) : Prop where
  frames : A.frames = some outer
  mod : Mod K mg base
  bs : ∀ b o, base.get? b = some o → s.heap.get? b = some o ∧ H b = none
  bsz : base.objs.size ≤ s.heap.objs.size
  funs : s.heap.FunFrames base outer
  frf : ∀ b ∈ frs outer, H b = none
  hok : HOk P w H s.heap
  bare : AllBare s.gens
/-- a call's end -/
def CE (outer : List Env) (P : Program) (w : World) (H : Hp) (s : Shared) (Q : VK) (u : Value) (s' : Shared) : Prop :=
  ∃ v H', s'.os = s.os ∧ AllBare s'.gens ∧ Un (frs outer) [] H H' s.heap s'.heap ∧ HOk P w H' s'.heap ∧ RelV v u ∧ Q v H'
def CR (CX : CXT) (outer : List Env) (P : Program) (w : World) (H : Hp) (s : Shared) (Q : VK) (E : XK) (r : Result) (s' : Shared) : Prop :=
  match r with
  | .ok (.ret u) => CE outer P w H s Q u s'
  | .ok _ => False
  | .error e => CX outer H s E e s'
structure FnOk (P : Program) (w : World) (K : PySem.W.Frag) (mg : Str → Option Value) (base : Heap) (CX : CXT) (k : Nat) (f : Addr) (fd : FuncData) (ps : List Str) (sp : Sp) : Prop where
  len : ∀ vs H Q E, sp vs H Q E → vs.length = ps.length
  run : ∀ (A : Around) (outer : List Env) (s : Shared) (H : Hp) (args : Args) (us : List Value) (vs : List V) (Q : VK) (E : XK), Room k A → Env0 P w K mg base A outer s H → BindsTo s fd args (ps.zip us) → Vals vs us → sp vs H Q E →
    codeAny (model P w) A (.call (.ref f) args) (CR CX outer P w H s Q E) s
section
variable {X : Cx} {pins : List (Addr × Obj)} {σ : St} {H : Hp} {s s' : Shared}
/-- from a body: what a callee wants -/
theorem Inv.env0 (I : Inv X pins σ H s) : Env0 X.prog X.w X.K X.mg X.base X.A X.stack s H :=
  ⟨I.ok.frames, I.ok.mod, I.bs, Nat.le_trans I.ok.bsz I.sz, I.stack, I.stkFree, I.hok, I.bare⟩
/-- behind a call -/
theorem Inv.after {Q : VK} {u : Value} (I : Inv X pins σ H s) (h : CE X.stack X.prog X.w H s Q u s') : EP X pins σ Q u s' := by
  obtain ⟨v, H', os, bare, un, hok, r, q⟩ := h
  obtain ⟨hh, g, d, t, os'⟩ := s'
  obtain rfl : os' = s.os := os
  exact ⟨v, H', I.call (h' := hh) (g' := g) (d' := d) (t' := t) (ch := []) un hok bare (fun b z => absurd z (by simp)), r, q⟩
end

/-- how the parameters are bound: us the positional arguments, kw the keywords' values by name, ds the defaults that fill up -/
def Binds (K : PySem.W.Frag) (fd : FuncData) (ps : List Str) (ds : List Value) : Prop :=
  ∀ (s : Shared) (us : List Value), K.In s.heap → (us ++ ds).length = ps.length → BindsTo s fd ⟨us, []⟩ (ps.zip (us ++ ds))
/-- every parameter is given -/
theorem Binds.all {K : PySem.W.Frag} {fd : FuncData} {ps : List Str} (h : ∀ us : List Value, us.length = ps.length → bindArgs fd ⟨us, []⟩ = pure (ps.zip us)) : Binds K fd ps [] := fun s us _ hl => by
  rw [List.append_nil] at hl ⊢
  exact .of_eq (h us hl)

/-- an exception of a callee reaches what this body wants of exceptions -/
def Passes (CX : CXT) (X : Cx) (E : XK) : Prop := ∀ (pins : List (Addr × Obj)) (σ : St) (H : Hp) (s : Shared) (e : Value) (s' : Shared), Inv X pins σ H s → CX X.stack H s E e s' → X.xe e s'

section
variable {X : Cx} {CX : CXT} {k : Nat} {f C : Addr} {fd : FuncData} {ps : List Str} {sp : Sp} {dvs : List V} {ds : List Value} {E : XK} {x m : Str} {p pos apos : Pos} {e o : Expr} {es : List Expr} {ta : TE} {t : TA}

/-- the callee runs -/
theorem run_fn {pins : List (Addr × Obj)} {σ : St} {H : Hp} {s : Shared} {Q : VK} {us : List Value} {vs : List V} (F : FnOk X.prog X.w X.K X.mg X.base CX k f fd ps sp) (hr : Room k X.A) (hb : Binds X.K fd ps ds) (hd : Vals dvs ds) (hx : Passes CX X E)
    (I : Inv X pins σ H s) (r : Vals vs us) (h : sp (vs ++ dvs) H Q E) : wpAny (model X.prog X.w) X.A (call (.ref f) us) (EP X pins σ Q) X.xe s := by
  have r2 : Vals (vs ++ dvs) (us ++ ds) := r.append hd
  have hl : (us ++ ds).length = ps.length := by rw [← r2.length]; exact F.len _ _ _ _ h
  refine wpAny_call (codeAny_mono (F.run X.A X.stack s H ⟨us, []⟩ (us ++ ds) (vs ++ dvs) Q E hr I.env0 (hb s us I.kIn hl) r2 h) fun r s' hq => ?_)
  cases r with
  | error e => exact hx pins σ H s e s' I hq
  | ok fl =>
    cases fl with
    | ret u => exact I.after hq
    | next => exact False.elim hq
    | brk => exact False.elim hq
    | cont => exact False.elim hq

end

/-- names: the parameters first -/
structure FnScope (N P : List Str) (sc : Scope) : Prop where
  kind : sc.kind = .function
  co : sc.isCoroutine = false
  gen : sc.isGenerator = false
  nd : N.Nodup
  pre : N.take P.length = P
  par : ∀ x ∈ P, sc.names.lookup x = some .local ∨ sc.names.lookup x = some .cell
  nofree : ∀ y ∈ sc.names, y.2 ≠ .free

theorem bindL_out {kindOf : Str → Option NameKind} {x : Str} : ∀ {binds : List (Str × Value)} {m : Str → Option Value}, (∀ v, (x, v) ∉ binds) → bindL kindOf binds m x = m x
  | [], _, _ => rfl
  | (n, v) :: r, m, h => by
    unfold bindL
    rw [bindL_out fun w hw => h w (List.mem_cons_of_mem _ hw)]
    split
    · have : x ≠ n := by rintro rfl; exact h v List.mem_cons_self
      simp [this]
    · rfl
theorem bindC_out {kindOf : Str → Option NameKind} {x : Str} : ∀ {binds : List (Str × Value)} {m : Str → Option Value}, (∀ v, (x, v) ∉ binds) → bindC kindOf binds m x = m x
  | [], _, _ => rfl
  | (n, v) :: r, m, h => by
    unfold bindC
    rw [bindC_out fun w hw => h w (List.mem_cons_of_mem _ hw)]
    split
    · rfl
    · have : x ≠ n := by rintro rfl; exact h v List.mem_cons_self
      simp [this]
theorem bindL_get {kindOf : Str → Option NameKind} {x : Str} {v : Value} : ∀ {P : List Str} {vs : List Value} {i : Nat} {m : Str → Option Value}, P.Nodup → P[i]? = some x → vs[i]? = some v → kindOf x = some .local →
    bindL kindOf (P.zip vs) m x = some v
  | [], _, _, _, _, h, _, _ => by simp at h
  | _ :: _, [], _, _, _, _, h, _ => by simp at h
  | p :: P, w :: vs, 0, m, nd, h1, h2, hk => by
    simp at h1 h2; subst h1; subst h2
    show bindL kindOf ((p, w) :: P.zip vs) m p = _
    unfold bindL
    rw [bindL_out fun v hv => (List.nodup_cons.mp nd).1 (List.of_mem_zip hv).1, if_pos hk]
    simp
  | p :: P, w :: vs, i + 1, m, nd, h1, h2, hk => by
    show bindL kindOf ((p, w) :: P.zip vs) m x = _
    unfold bindL
    exact bindL_get (i := i) (List.nodup_cons.mp nd).2 (by simpa using h1) (by simpa using h2) hk
theorem bindC_get {kindOf : Str → Option NameKind} {x : Str} {v : Value} : ∀ {P : List Str} {vs : List Value} {i : Nat} {m : Str → Option Value}, P.Nodup → P[i]? = some x → vs[i]? = some v → kindOf x ≠ some .local →
    bindC kindOf (P.zip vs) m x = some v
  | [], _, _, _, _, h, _, _ => by simp at h
  | _ :: _, [], _, _, _, _, h, _ => by simp at h
  | p :: P, w :: vs, 0, m, nd, h1, h2, hk => by
    simp at h1 h2; subst h1; subst h2
    show bindC kindOf ((p, w) :: P.zip vs) m p = _
    unfold bindC
    rw [bindC_out fun v hv => (List.nodup_cons.mp nd).1 (List.of_mem_zip hv).1, if_neg hk]
    simp
  | p :: P, w :: vs, i + 1, m, nd, h1, h2, hk => by
    show bindC kindOf ((p, w) :: P.zip vs) m x = _
    unfold bindC
    exact bindC_get (i := i) (List.nodup_cons.mp nd).2 (by simpa using h1) (by simpa using h2) hk

/-- the names' values at the entry -/
def start (N : List Str) (vs : List V) : St := vs.map some ++ List.replicate (N.length - vs.length) none

/-- the context of a def's body, at its entry; an exception leaves the frame, then lies as CX says -/
def cxOf (CX : CXT) (P : Program) (w : World) (K : PySem.W.Frag) (mg : Str → Option Value) (base : Heap) (N : List Str) (qual : Str) (scope : Scope) (f : Addr) (cd : Value) (A : Around) (outer : List Env) (s : Shared) (H : Hp) (E : XK) : Cx where
  prog := P
  w := w
  K := K
  mg := mg
  base := base
  A := A.deeper (envOfC qual scope s.heap.objs.size f cd)
  N := N
  s₀ := s
  H₀ := H
  env := envOfC qual scope s.heap.objs.size f cd
  outer := outer
  stack := envOfC qual scope s.heap.objs.size f cd :: outer
  ex := []
  calm := true
  fn := fun _ => true
  pn := []
  xe := fun e s' => wpAny (model P w) (A.deeper (envOfC qual scope s.heap.objs.size f cd)) (leaving (envOfC qual scope s.heap.objs.size f cd) e) (fun _ s'' => CX outer H s E e s'') (fun e' s'' => CX outer H s E e' s'') s'

theorem cell_has {sc : Scope} {n : Nat} {x : Str} (h : sc.names.lookup x = some .cell) : ∃ c, (cellsFrom n sc.names []).lookup x = some c := by
  have q := PySem.W.cellsFrom_some sc.names n [] (.inl h)
  exact Option.isSome_iff_exists.mp q

theorem inv_start {CX : CXT} {P : Program} {w : World} {K : PySem.W.Frag} {mg : Str → Option Value} {base : Heap} {N ps : List Str} {qual : Str} {scope : Scope} {f : Addr} {cd : Value} {A : Around} {outer : List Env} {s s1 : Shared} {H : Hp} {E : XK} {us : List Value} {vs : List V}
    (S : FnScope N ps scope) (hd : A.handled = none) (e0 : Env0 P w K mg base A outer s H) (hl : vs.length = ps.length) (r : Vals vs us)
    (x : InCallC s s.heap.objs.size (bindL (envOfC qual scope s.heap.objs.size f cd).kindOf (ps.zip us) fun _ => none) (cellsFrom (s.heap.objs.size + 1) scope.names []) (bindC (envOfC qual scope s.heap.objs.size f cd).kindOf (ps.zip us) fun _ => none) s1) :
    Inv (cxOf CX P w K mg base N qual scope f cd A outer s H E) [] (start N vs) H s1 := by
  have hpl : ps.length ≤ N.length := by have := congrArg List.length S.pre; rw [List.length_take] at this; omega
  obtain ⟨h1, tk, rfl, hk⟩ := x.done
  have noA : ∀ b : Addr, b ∉ (cxOf CX P w K mg base N qual scope f cd A outer s H E).ex := fun b z => absurd (show b ∈ ([] : List Addr) from z) (by simp)
  refine ⟨⟨e0.mod, S.kind, rfl, rfl, Nat.le_refl _, fun y z c h1 h2 => ?_, fun y hy => ?_, fun y c _ h => ?_, fun _ => hd, Around.frames_deeper e0.frames, .inr ⟨rfl, rfl⟩, fun b z => absurd z (noA b), e0.bs, e0.bsz, fun b _ _ => noA b, fun b z => absurd z (noA b), e0.funs, e0.frf⟩,
    rfl, e0.bare, Un.kept hk, ⟨_, x.toInCall.ns, fun i y v h1 h2 h3 => ?_⟩, fun y c h => ⟨_, x.cell y c h⟩, e0.hok.fresh (Nat.le_refl _), fun y c h => ?_, fun p hp => absurd (show p ∈ ([] : List (Addr × Obj)) from hp) (by simp), e0.hok.kept hk, ?_⟩
  · exact name_of_addr x.apart (PySem.mem_of_lookup h1) (PySem.mem_of_lookup h2)
  · have hy : scope.names.lookup y = some .cell ∨ scope.names.lookup y = some .free := hy
    rcases hy with hy | hy
    · exact cell_has hy
    · exact absurd rfl (S.nofree _ (PySem.mem_of_lookup hy))
  · exact Nat.le_of_lt (x.above y c (PySem.mem_of_lookup h))
  · have hi : i < vs.length := by
      unfold start at h2
      by_cases hi : i < vs.length
      · exact hi
      · rw [List.getElem?_append_right (by simpa using hi)] at h2
        rw [List.getElem?_replicate] at h2
        split at h2 <;> cases h2
    have ha : vs[i]? = some v := by
      unfold start at h2
      rw [List.getElem?_append_left (by simpa using hi), List.getElem?_map] at h2
      cases e : vs[i]? with
      | none => rw [e] at h2; cases h2
      | some a => rw [e] at h2; cases h2; rfl
    obtain ⟨u, hu, rv⟩ := r.get ha
    have hp : ps[i]? = some y := by
      rw [← S.pre, List.getElem?_take_of_lt (by omega)]; exact h1
    have ndP : ps.Nodup := by rw [← S.pre]; exact S.nd.sublist (List.take_sublist _ _)
    refine ⟨u, rv, ?_⟩
    rcases S.par y (List.mem_of_getElem? hp) with k | k
    · exact .inl ⟨k, bindL_get ndP hp hu k⟩
    · obtain ⟨c, e⟩ := cell_has (n := s.heap.objs.size + 1) k
      refine .inr ⟨.inl k, c, e, ?_⟩
      have q := x.cell y c e
      rw [bindC_get ndP hp hu (by show scope.names.lookup y ≠ _; rw [k]; decide)] at q
      exact q
  · exact e0.hok.fresh (Nat.le_of_lt (x.above y c (PySem.mem_of_lookup h)))
  · unfold start
    show _ = N.length
    rw [List.length_append, List.length_map, List.length_replicate]
    omega

/-- THE RULE: a def (or a method) of the text, by its body. The body's reading t is chosen for each entry; it is run at the parameters' values -/
theorem fn_of {CX : CXT} {P : Program} {w : World} {K : PySem.W.Frag} {mg : Str → Option Value} {base : Heap} {k : Nat} {f : Addr} {name qual : Str} {params : Arguments} {body : List Stmt} {scope : Scope} {dV kV doc pm cdv ct oc : Value} {an od : Option Addr}
    {osl : Array (Option Value)} {N ps : List Str} {sp : Sp} (lk : K.lookup f = some ⟨oc, od, .func (PySem.W.fnOf name qual params body scope dV kV doc pm an cdv ct), osl⟩) (hcd : PySem.W.codeIn K cdv qual = true) (S : FnScope N ps scope)
    (len : ∀ vs H Q E, sp vs H Q E → vs.length = ps.length)
    (hbody : ∀ (A : Around) (outer : List Env) (s : Shared) (H : Hp) (vs : List V) (Q : VK) (E : XK), Room k (A.deeper (envOfC qual scope s.heap.objs.size f cdv)) → sp vs H Q E →
      ∃ t, PSs (cxOf CX P w K mg base N qual scope f cdv A outer s H E) body t ∧ t { nx := fun _ H' => Q .non H', rt := Q } (start N vs) H) :
    FnOk P w K mg base CX (k + 1) f (PySem.W.fnOf name qual params body scope dV kV doc pm an cdv ct) ps sp := by
  refine ⟨len, fun A outer s H args us vs Q E hr e0 hb r hsp => ?_⟩
  have hl := len _ _ _ _ hsp
  have KX : K.In s.heap := e0.mod.kin.keeps fun b o e => (e0.bs b o e).1
  have lim : s.heap.NoLimit := e0.mod.nolimit.keeps fun b o e => (e0.bs b o e).1
  have hkind : ∀ y ∈ ps.zip us, scope.names.lookup y.1 = some .local ∨ (scope.names.lookup y.1 = some .cell ∧ ((cellsFrom (s.heap.objs.size + 1) scope.names []).lookup y.1).isSome = true) := fun ⟨n, v⟩ hy => by
    rcases S.par n (List.of_mem_zip hy).1 with q | q
    · exact .inl q
    · exact .inr ⟨q, PySem.W.cellsFrom_some _ _ _ (.inl q)⟩
  refine codeAny_call_function hr.depth (KX _ _ lk) rfl S.co S.gen rfl (PySem.W.codeRec_of KX hcd) (hb _ _ _ _ ?_)
  refine wpAny_newFunctionEnv_cells S.kind hkind fun env he s1 x => ?_
  subst he
  refine ⟨lim.keeps x.toInCall.keep, codeAny_func ?_⟩
  obtain ⟨t, ht, hq⟩ := hbody A outer s H vs Q E (hr.deeper _) hsp
  have I : Inv (cxOf CX P w K mg base N qual scope f cdv A outer s H E) [] (start N vs) H s1 := inv_start S hr.hd e0 hl r x
  refine wpAny_mono (ht [] s1 (start N vs) H _ I hq) (fun fl s' hs => ?_) fun e s' hs => hs
  have fin : ∀ {σ' : St} {H' : Hp} {v : V} {u : Value}, Inv (cxOf CX P w K mg base N qual scope f cdv A outer s H E) [] σ' H' s' → RelV v u → Q v H' → CE outer P w H s Q u s' :=
    fun {σ' H' v u} J rv q => ⟨v, H', J.os, J.bare, J.base, J.hok, rv, q⟩
  cases fl with
  | ret u =>
    obtain ⟨v, σ', H', J, rv, q⟩ := hs
    exact fin J rv q
  | next =>
    obtain ⟨σ', H', J, q⟩ := hs
    exact fin (v := V.non) (u := Value.none) J rfl q
  | brk =>
    obtain ⟨_, _, _, q⟩ := hs
    exact False.elim q
  | cont =>
    obtain ⟨_, _, _, q⟩ := hs
    exact False.elim q
end L2

namespace L2
open PySem PySem.Spec PyProof.Rows
section
variable {X : Cx} {x : Str} {p pos : Pos} {e : Expr} {es : List Expr} {t : TA} {id T : String} {r : List V → Hp → VK → Prop}

def tCB (r : List V → Hp → VK → Prop) (t : TA) : TE := fun σ H Q => t σ H fun vs H1 => r vs H1 Q
/-- f(e, ..), f a built-in function -/
theorem pe_callB (hc : CallR X (.builtin id) r) (hg : Gl X x) (hm : X.mg x = none) (hv : bootBuiltins x = some (.builtin id)) (ha : PA X (e :: es) t) (hn : x ≠ "__name__" := by decide) (hdb : (x == ("__debug__" : Str)) = false := by decide)
    (he : starEach (e :: es) X.env = (false, eval e X.env) :: starEach es X.env := by rfl) (hpl : (backTo pos (starEach es X.env)).any (·.1) = false := by rfl) : PE X (.Call (.Name x p) (e :: es) [] pos) (tCB r t) := by
  intro pins s σ H Q I h
  refine wpAny_Call_Name_kw (ld_blt I hg hm hv ?_ hn hdb)
  exact PyProof.Rows.callWith_builtin1 (thn (ha pos pins s σ H _ I h) fun us s1 ⟨vs, H1, I1, r1, q1⟩ => hc pins s1 σ H1 vs us Q I1 r1 q1) he hpl
/-- T(e, ..), T a built-in type -/
theorem pe_callTy (hc : CallR X (.type T) r) (hg : Gl X x) (hm : X.mg x = none) (hv : bootBuiltins x = some (.type T)) (ha : PA X (e :: es) t) (hn : x ≠ "__name__" := by decide) (hdb : (x == ("__debug__" : Str)) = false := by decide)
    (he : starEach (e :: es) X.env = (false, eval e X.env) :: starEach es X.env := by rfl) (hpl : (backTo pos (starEach es X.env)).any (·.1) = false := by rfl) : PE X (.Call (.Name x p) (e :: es) [] pos) (tCB r t) := by
  intro pins s σ H Q I h
  refine wpAny_Call_Name_kw (ld_blt I hg hm hv ?_ hn hdb)
  exact PyProof.Rows.callWith_type1 (thn (ha pos pins s σ H _ I h) fun us s1 ⟨vs, H1, I1, r1, q1⟩ => hc pins s1 σ H1 vs us Q I1 r1 q1) he hpl
end
end L2

namespace HT
open PySem PyProof.Rows

theorem rcLt_int (A : Around) (s : Shared) (a : Int) (t : Tok) (c : Int) (u : Tok) (prog : Program) (w : World) (E : Value → Shared → Prop) (Q : Value → Shared → Prop) (h : Q (.bool (decide (a < c))) s) :
    wpAny (model prog w) A (richCompare .Lt (.int a t) (.int c u)) Q E s :=
  (PyProof.Rows.lt_int h : wpAny (model prog w) A (compareOp .Lt (.int a t) (.int c u)) Q E s)

end HT

namespace L2
open PySem PySem.Spec PyProof.Rows

/-- the place that an index of any sign means -/
def ixN (n : Nat) (i : Int) : Option Nat := if 0 ≤ i then (if i < n then some i.toNat else none) else if -(n : Int) ≤ i then some (i + n).toNat else none
def atI {α : Type} (xs : List α) (i : Int) : Option α := (ixN xs.length i).bind fun j => xs[j]?
theorem ixN_seq {n : Nat} {i : Int} {j : Nat} (h : ixN n i = some j) : seqIndex? i n = some j ∧ j < n ∧ -(n : Int) ≤ i ∧ i < n := by
  unfold ixN at h
  by_cases h0 : 0 ≤ i
  · rw [if_pos h0] at h
    by_cases h1 : i < n
    · rw [if_pos h1] at h
      have e : i.toNat = j := Option.some.inj h
      exact ⟨by rw [seqIndex_of h0 h1, e], by omega, by omega, h1⟩
    · rw [if_neg h1] at h; cases h
  · rw [if_neg h0] at h
    by_cases h1 : -(n : Int) ≤ i
    · rw [if_pos h1] at h
      have e : (i + n).toNat = j := Option.some.inj h
      exact ⟨by rw [seqIndex_neg (by omega) h1, e], by omega, h1, by omega⟩
    · rw [if_neg h1] at h; cases h
theorem atI_get {α : Type} {xs : List α} {i : Int} {v : α} (h : atI xs i = some v) : ∃ j, seqIndex? i xs.length = some j ∧ xs[j]? = some v ∧ j < xs.length ∧ -(xs.length : Int) ≤ i ∧ i < xs.length := by
  unfold atI at h
  cases e : ixN xs.length i with
  | none => rw [e] at h; cases h
  | some j =>
    rw [e] at h
    obtain ⟨h1, h2, h3, h4⟩ := ixN_seq e
    exact ⟨j, h1, h, h2, h3, h4⟩
theorem atI_nat {α : Type} {xs : List α} {j : Nat} {v : α} (h : xs[j]? = some v) : atI xs (j : Int) = some v := by
  have hj : j < xs.length := (List.getElem?_eq_some_iff.mp h).1
  have e : ixN xs.length (j : Int) = some j := by
    unfold ixN
    rw [if_pos (by omega), if_pos (by omega)]; simp
  unfold atI; rw [e]; exact h
/-- what stands as an index of a plain subscript -/
def PlainIx (b : Expr) : Prop := ∀ o i, subscripted b false o i = operate [o, i] (getItem o i)
/-- a subscript by values -/
def IxR (X : Cx) (r : R2) : Prop :=
  ∀ (value slice : Expr) (pins : List (Addr × Obj)) (s : Shared) (σ : St) (H : Hp) (x y : V) (v u : Value) (Q : VK), Inv X pins σ H s → RelV x v → RelV y u → r x y H Q →
    subscripted slice false v u = operate [v, u] (getItem v u) → wpAny (model X.prog X.w) X.A (subscriptTail value slice v u) (EP X pins σ Q) X.xe s
/-- a call of a builtin's method by values: the receiver, the arguments -/
def MtR (X : Cx) (id : String) (r : V → List V → Hp → VK → Prop) : Prop :=
  ∀ (pins : List (Addr × Obj)) (s : Shared) (σ : St) (H : Hp) (x : V) (xs : List V) (v : Value) (us : List Value) (Q : VK), Inv X pins σ H s → RelV x v → Vals xs us → r x xs H Q →
    wpAny (model X.prog X.w) X.A (call (.builtin id) (v :: us)) (EP X pins σ Q) X.xe s
section
variable {X : Cx} {a b : Expr} {ta tb : TE} {pos : Pos}
/-- a[b] -/
theorem pe_ix {r : R2} (hr : IxR X r) (ha : PE X a ta) (hb : PE X b tb) (hs : PlainIx b) : PE X (.Subscript a b pos) (tOp r ta tb) := by
  intro pins s σ H Q I h
  exact Subscript_ (binT ha hb I h fun v u s2 x y H2 I2 rx ry q => hr a b pins s2 σ H2 x y v u Q I2 rx ry q (hs _ _))

def rIxL (K : PySem.W.Frag) : R2 := fun x y H Q => ∃ p xs i v, x = .ref p ∧ y = .int i ∧ SqL K H p xs ∧ atI xs i = some v ∧ Q v H
def rIxT (K : PySem.W.Frag) : R2 := fun x y H Q => ∃ p xs i v, x = .ref p ∧ y = .int i ∧ SqT K H p xs ∧ atI xs i = some v ∧ Q v H
theorem ix_list : IxR X (rIxL X.K) := by
  intro value slice pins s σ H x y v u Q I rx ry h hs
  obtain ⟨p, xs, i, z, rfl, rfl, hq, he, q⟩ := h
  cases rx
  obtain ⟨t, rfl⟩ := ry
  obtain ⟨its, r, pl, hz⟩ := I.list hq
  obtain ⟨j, h1, h2, h3, h4, h5⟩ := atI_get he
  obtain ⟨w, ew, rw'⟩ := r.get h2
  have hl := r.length
  have hn := line63
  have fin : EP X pins σ Q w s := ⟨z, H, I, rw', q⟩
  by_cases h0 : 0 ≤ i
  · have hj : i.toNat = j := by
      rw [seqIndex_of h0 h5] at h1
      exact Option.some.inj h1
    exact item_listR pl.isList h0 (by omega) (by rw [hj]; simpa using ew) fin hs
  · have hj : (i + (its.toArray.size : Int)).toNat = j := by
      rw [seqIndex_neg (by omega) h4] at h1
      rw [List.size_toArray, ← hl]
      exact Option.some.inj h1
    exact subscriptTail_builtinR (x := w) pl.isList.typeIs slot_list_getitem.lookup
      (wpAny_getItem_list_neg (Q := fun r s' => r = w ∧ EP X pins σ Q r s') pl.isList (by omega) (by rw [List.size_toArray] <;> omega) (by omega) (by rw [hj]; simpa using ew) ⟨rfl, fin⟩) hs
theorem ix_tup : IxR X (rIxT X.K) := by
  intro value slice pins s σ H x y v u Q I rx ry h hs
  obtain ⟨p, xs, i, z, rfl, rfl, hq, he, q⟩ := h
  cases rx
  obtain ⟨t, rfl⟩ := ry
  obtain ⟨its, r, pl, hz⟩ := I.tuple hq
  obtain ⟨j, h1, h2, h3, h4, h5⟩ := atI_get he
  obtain ⟨w, ew, rw'⟩ := r.get h2
  have hl := r.length
  have hn := line63
  have fin : EP X pins σ Q w s := ⟨z, H, I, rw', q⟩
  exact subscriptTail_builtinR (x := w) pl.typeIs slot_tuple_getitem.lookup
    (getItem_tuple (j := j) (Q := fun r s' => r = w ∧ EP X pins σ Q r s') pl (by omega) (by omega) (by rw [List.size_toArray, ← hl]; exact h1) (by simpa using ew) ⟨rfl, fin⟩) hs
def flatV : V → Bool
  | .non => true
  | .bl _ => true
  | .int _ => true
  | .str _ => true
  | _ => false
/-- == of flat values -/
def eqV : V → V → Bool
  | .non, .non => true
  | .bl a, .bl b => a == b
  | .bl a, .int b => (if a then 1 else 0) == b
  | .int a, .bl b => a == (if b then 1 else 0)
  | .int a, .int b => a == b
  | .str a, .str b => a == b
  | _, _ => false
theorem eqAt_V {A : Around} {s : Shared} {y x : V} {u v : Value} (ry : RelV y u) (rx : RelV x v) (fy : flatV y = true) (fx : flatV x = true) : SeqAt.EqAt A s u v (eqV y x) := by
  cases y with
  | non =>
    cases ry
    cases x with
    | non => cases rx; exact SeqAt.EqAt.same _
    | bl b => cases rx; exact SeqAt.EqAt.none_bool b
    | int b => obtain ⟨t, rfl⟩ := rx; exact SeqAt.EqAt.none_int b t
    | str b => obtain ⟨t, rfl⟩ := rx; exact SeqAt.EqAt.none_str b t
    | _ => exact absurd (show false = true from fx) Bool.false_ne_true
  | bl a =>
    cases ry
    cases x with
    | non => cases rx; exact SeqAt.EqAt.bool_none a
    | bl b => cases rx; exact SeqAt.EqAt.bool_bool a b
    | int b => obtain ⟨t, rfl⟩ := rx; exact SeqAt.EqAt.bool_int a b t
    | str b => obtain ⟨t, rfl⟩ := rx; exact SeqAt.EqAt.bool_str a b t
    | _ => exact absurd (show false = true from fx) Bool.false_ne_true
  | int a =>
    obtain ⟨t', rfl⟩ := ry
    cases x with
    | non => cases rx; exact SeqAt.EqAt.int_none a t'
    | bl b => cases rx; exact SeqAt.EqAt.int_bool a t' b
    | int b => obtain ⟨t, rfl⟩ := rx; exact SeqAt.EqAt.int_int a t' b t
    | str b => obtain ⟨t, rfl⟩ := rx; exact SeqAt.EqAt.int_str a t' b t
    | _ => exact absurd (show false = true from fx) Bool.false_ne_true
  | str a =>
    obtain ⟨t', rfl⟩ := ry
    cases x with
    | non => cases rx; exact SeqAt.EqAt.str_none a t'
    | bl b => cases rx; exact SeqAt.EqAt.str_bool a t' b
    | int b => obtain ⟨t, rfl⟩ := rx; exact SeqAt.EqAt.str_int a t' b t
    | str b => obtain ⟨t, rfl⟩ := rx; exact SeqAt.EqAt.str_str a t' b t
    | _ => exact absurd (show false = true from fx) Bool.false_ne_true
  | _ => exact absurd (show false = true from fy) Bool.false_ne_true
theorem call_len_seq : CallR X (.builtin "len") (fun xs H Q => ∃ p ys, xs = [.ref p] ∧ (SqL X.K H p ys ∨ SqT X.K H p ys) ∧ Q (.int ys.length) H) := by
  intro pins s σ H xs us Q I r h
  obtain ⟨p, ys, rfl, hq, q⟩ := h
  obtain ⟨u, rfl, rx⟩ := vals1 r
  cases rx
  have hn := line63
  rcases hq with hq | hq
  · obtain ⟨its, r', pl, hz⟩ := I.list hq
    have hlen := r'.length
    exact Calls.call_len_list pl.isList (by simp only [List.size_toArray] <;> omega) ⟨.int ys.length, H, I.tok _, ⟨s.toks + 1, by rw [List.size_toArray, hlen]⟩, q⟩
  · obtain ⟨its, r', pl, hz⟩ := I.tuple hq
    have hlen := r'.length
    exact len_tuple pl (by simp only [List.size_toArray] <;> omega) ⟨.int ys.length, H, I.tok _, ⟨s.toks + 1, by rw [List.size_toArray, hlen]⟩, q⟩
theorem call_len_str : CallR X (.builtin "len") (fun xs H Q => ∃ z, xs = [.str z] ∧ z.length ≤ sizeLine ∧ Q (.int z.length) H) := by
  intro pins s σ H xs us Q I r h
  obtain ⟨z, rfl, hz, q⟩ := h
  obtain ⟨u, rfl, t, rfl⟩ := vals1 r
  have hn := line63
  exact len_str (by omega) ⟨.int z.length, H, I.tok _, ⟨_, rfl⟩, q⟩
/-- the value is of that builtin type -/
def tyV (K : PySem.W.Frag) (T : String) (x : V) (H : Hp) : Prop := match x with
  | .str _ => T = "str"
  | .int _ => T = "int"
  | .ref p => (T = "list" ∧ ∃ xs, SqL K H p xs) ∨ (T = "tuple" ∧ ∃ o, K.lookup p = some o ∧ o.cls = .type "tuple" ∧ o.dict = none) ∨
      (T = "dict" ∧ ((∃ kvs, H p = some (.dK kvs)) ∨ ∃ kvs, H p = some (.dT kvs))) ∨ (T = "set" ∧ ∃ S n, H p = some (.set S n))
  | _ => False
theorem tyV_is {pins : List (Addr × Obj)} {σ : St} {H : Hp} {s : Shared} {T : String} {x : V} {v : Value} (I : Inv X pins σ H s) (r : RelV x v) (ty : tyV X.K T x H) :
    s.TypeIs v T ∧ ∀ a, v = .ref a → ∃ ob, s.heap.get? a = some ob ∧ ob.dict = none := by
  cases x with
  | str z =>
    obtain ⟨t, rfl⟩ := r
    cases (show T = "str" from ty)
    exact ⟨typeIs_str s z t, fun _ e => nomatch e⟩
  | int i =>
    obtain ⟨t, rfl⟩ := r
    cases (show T = "int" from ty)
    exact ⟨typeIs_int s i t, fun _ e => nomatch e⟩
  | ref p =>
    cases r
    rcases ty with ⟨rfl, xs, hq⟩ | ⟨rfl, o, hk, hc, hd⟩ | ⟨rfl, hk⟩ | ⟨rfl, S, n, hk⟩
    · obtain ⟨its, _, pl, _⟩ := I.list hq
      refine ⟨pl.isList.typeIs, fun a e => ?_⟩
      cases e
      obtain ⟨o, n, e, c, hd, _⟩ := pl
      exact ⟨o, e, hd⟩
    · refine ⟨⟨o, I.kIn p o hk, hc⟩, fun a e => ?_⟩
      cases e
      exact ⟨o, I.kIn _ o hk, hd⟩
    · have z : ∃ o, s.heap.get? p = some o ∧ o.ExactDict := by
        rcases hk with ⟨kvs, hk⟩ | ⟨kvs, hk⟩
        · obtain ⟨_, _, _, _, o, _, _, e, ex, _⟩ := I.hok p _ hk
          exact ⟨o, e, ex⟩
        · obtain ⟨_, _, _, _, o, _, _, e, ex, _⟩ := I.hok p _ hk
          exact ⟨o, e, ex⟩
      obtain ⟨o, e, ex⟩ := z
      refine ⟨⟨o, e, ex.1⟩, fun a e2 => ?_⟩
      cases e2
      exact ⟨o, e, ex.2.1⟩
    · obtain ⟨o, _, _, _, e, ex, _⟩ := I.hok p _ hk
      refine ⟨⟨o, e, ex.1⟩, fun a e2 => ?_⟩
      cases e2
      exact ⟨o, e, ex.2.1⟩
  | _ => exact False.elim ty
def tBM0 (K : PySem.W.Frag) (T : String) (r : V → List V → Hp → VK → Prop) (to : TE) : TE := fun σ H Q => to σ H fun x H1 => tyV K T x H1 ∧ r x [] H1 Q
def tBM (K : PySem.W.Frag) (T : String) (r : V → List V → Hp → VK → Prop) (to : TE) (t : TA) : TE := fun σ H Q => to σ H fun x H1 => tyV K T x H1 ∧ t σ H1 fun xs H2 => r x xs H2 Q
variable {o e : Expr} {es : List Expr} {to : TE} {t : TA} {name : Str} {apos cpos : Pos} {T id : String} {r : V → List V → Hp → VK → Prop}
theorem pe_bm0 (pa : PlainAttrs T) (slot : Slot T name id) (hty : typeOf (.builtin id) = pure (.type "method_descriptor")) (hm : MtR X id r) (ho : PE X o to)
    (hbase : attributeBase o name X.env (eval o X.env) = eval o X.env := by rfl) (hline : (apos.endLine == cpos.line) = true := by rfl) : PE X (.Call (.Attribute o name apos) [] [] cpos) (tBM0 X.K T r to) := by
  intro pins s σ H Q I h
  refine wpAny_Call_method0_late hbase hline (thn (ho pins s σ H _ I h) fun v s1 ⟨x, H1, I1, r1, ty, q1⟩ => ?_)
  obtain ⟨h1, h2⟩ := tyV_is I1 r1 ty
  exact ⟨T, id, pa, slot, hty, h1, h2, Calls.callWith_builtin rfl (PySem.evalArgs_none (hm pins s1 σ H1 x [] v [] Q I1 r1 .nil q1))⟩
theorem pe_bm (pa : PlainAttrs T) (slot : Slot T name id) (hty : typeOf (.builtin id) = pure (.type "method_descriptor")) (hm : MtR X id r) (ho : PE X o to) (ha : PA X (e :: es) t)
    (hbase : attributeBase o name X.env (eval o X.env) = eval o X.env := by rfl)
    (hfew : ((backTo cpos (starEach (e :: es) X.env)).all (fun x => !x.1) && (backToKw cpos (keywordEach [] X.env)).all (fun x => x.1.isSome)
      && decide ((e :: es).length + ([] : List Keyword).length + (if ([] : List Keyword).isEmpty then 0 else 1) < 30)) = true := by rfl)
    (hline : (apos.endLine == cpos.line) = true := by rfl) (hs : starEach (e :: es) X.env = (false, eval e X.env) :: starEach es X.env := by rfl) (hplain : (backTo cpos (starEach es X.env)).any (·.1) = false := by rfl) :
    PE X (.Call (.Attribute o name apos) (e :: es) [] cpos) (tBM X.K T r to t) := by
  intro pins s σ H Q I h
  refine wpAny_Call_method_late hbase hfew hline rfl (thn (ho pins s σ H _ I h) fun v s1 ⟨x, H1, I1, r1, ty, q1⟩ => ?_)
  obtain ⟨h1, h2⟩ := tyV_is I1 r1 ty
  refine ⟨T, id, pa, slot, hty, h1, h2, ?_⟩
  have hA := ha cpos pins s1 σ H1 _ I1 q1
  rw [hs] at hA ⊢
  refine Calls.callWith_builtin (by show (false || (backTo cpos (starEach es X.env)).any (·.1)) = false; rw [hplain] <;> rfl) (Calls.evalArgs_plain ?_)
  exact thn hA fun us s2 ⟨vs, H2, I2, r2, q2⟩ => hm pins s2 σ H2 x vs v us Q I2 r1 r2 q2
end
end L2

namespace L2
open PySem PySem.Spec PyProof.Rows

def MtM (X : Cx) (id : String) (r : V → List V → Hp → VK → Prop) : Prop :=
  ∀ (pins : List (Addr × Obj)) (s : Shared) (σ : St) (H : Hp) (x : V) (xs : List V) (v : Value) (us : List Value) (Q : VK), Inv X pins σ H s → RelV x v → Vals xs us → r x xs H Q →
    wpAny (model X.prog X.w) X.A (call (.builtin id) (v :: us)) (EP X pins σ Q) X.xe s

theorem Vals.one : ∀ {x : V} {us : List Value}, Vals [x] us → ∃ u, us = [u] ∧ RelV x u
  | _, _, .cons r .nil => ⟨_, rfl, r⟩
theorem Vals.zero : ∀ {us : List Value}, Vals [] us → us = []
  | _, .nil => rfl
section
variable {X : Cx} {pins : List (Addr × Obj)} {σ : St} {H : Hp} {s : Shared} {l b : Addr} {xs ys zs : List V}

theorem Inv.lset {its its' : List Value} {n : Nat} {f : Array Value → Array Value} {t' : Nat} (I : Inv X pins σ H s) (hH : H l = some (.lst xs))
    (e : s.heap.get? l = some { cls := .type "list", data := .seq its.toArray n }) (hf : f its.toArray = its'.toArray) (hv : Vals ys its') (hz : ys.length ≤ sizeLine) :
    Inv X pins σ (upd H l (.lst ys)) { s with heap := s.heap.update l (Obj.mapSeq f), toks := t' } := by
  have q := PySem.IsL.update e f
  rw [hf] at q
  refine I.write (x := l) (e := l) (by rw [hH]; exact trivial) (.inl rfl) (fun b' u hb hu => (Heap.get?_update_other s.heap (Obj.mapSeq f) (Ne.symm hb)).trans hu) ⟨_, q⟩ ?_
  exact ⟨hz, its', _, hv, q⟩
theorem Inv.lstM (I : Inv X pins σ H s) (hH : H l = some (.lst xs)) : xs.length ≤ sizeLine ∧ ∃ (its : List Value) (n : Nat), Vals xs its ∧ xs.length = its.length ∧ s.heap.get? l = some { cls := .type "list", data := .seq its.toArray n } := by
  obtain ⟨z, its, n, r, e⟩ := I.hok l _ hH
  exact ⟨z, its, n, r, r.length, e⟩

end

section
variable {X : Cx}

def rAppend : V → List V → Hp → VK → Prop := fun x vs H Q => ∃ l xs y, x = .ref l ∧ vs = [y] ∧ H l = some (.lst xs) ∧ xs.length < sizeLine ∧ Q .non (upd H l (.lst (xs ++ [y])))
theorem mt_append : MtM X "list.append" rAppend := by
  intro pins s σ H x vs v us Q I rx rv h
  obtain ⟨l, xs, y, rfl, rfl, hH, hz, q⟩ := h
  cases rx
  obtain ⟨u, rfl, ru⟩ := rv.one
  obtain ⟨z, its, n, r, hl, e⟩ := I.lstM hH
  refine call_meets F.slot_list_append ⟨_, e, rfl⟩ F.entry_list_append (F.args_list_append_2 _ _) (PySem.list_append l its.toArray n u (by rw [List.size_toArray]; omega)) ⟨e, ?_⟩
  refine ⟨.non, _, I.lset (its' := its ++ [u]) hH e (by simp) (r.append (.cons ru .nil)) ?_, rfl, q⟩
  rw [List.length_append, List.length_singleton]
  omega

def rClear : V → List V → Hp → VK → Prop := fun x vs H Q => ∃ l xs, x = .ref l ∧ vs = [] ∧ H l = some (.lst xs) ∧ Q .non (upd H l (.lst []))
theorem mt_clear : MtM X "list.clear" rClear := by
  intro pins s σ H x vs v us Q I rx rv h
  obtain ⟨l, xs, rfl, rfl, hH, q⟩ := h
  cases rx
  have hus := rv.zero
  subst hus
  obtain ⟨z, its, n, r, hl, e⟩ := I.lstM hH
  refine call_meets F.slot_list_clear ⟨_, e, rfl⟩ F.entry_list_clear (F.args_list_clear_1 _) (AutoSeq1.list_clear_list_0 l its.toArray n (by rw [List.size_toArray]; omega)) ⟨e, ?_⟩
  exact ⟨.non, _, I.lset (its' := []) (ys := []) hH e rfl .nil (Nat.zero_le _), rfl, q⟩

end

end L2

namespace Att
open PySem PySem.W PySem.Calls PyProof.Rows

theorem ints_of_wellAll {P : Params} {h : Heap} : ∀ (ns : List Int) (vs : List Value), WellAll P h vs (ns.map WData.int) → IntsAre vs ns := by
  intro ns
  induction ns with
  | nil =>
    intro vs w
    rw [List.map_nil] at w
    cases w
    exact .nil
  | cons n ns ih =>
    intro vs w
    rw [List.map_cons] at w
    cases w with
    | cons a b =>
      cases a
      exact .cons _ _ (ih _ b)

theorem script_of {l : OpenLaw} {n : Nat} (hn : l.most = some n) {P : Params} {h : Heap} {args : List WData} {vals : List Value}
    (hpre : l.row.toRowW.claim.pre args = true) (hwl : WellAll P h vals args) :
    ∃ a vs ns, vals = [Value.ref a] ∧ args = [WData.list (ns.map WData.int)] ∧ h.get? a = some { cls := .type "list", data := .seq vs.toArray } ∧ IntsAre vs ns ∧ ns.length ≤ n := by
  have hsh : WShape.hasAll [] args [.list .int] = true := (pre_splitW hpre).1
  have hc : l.pre.holds [] { args := args } = true := (pre_splitW hpre).2
  obtain ⟨d, r, rfl, h1, h2⟩ := hasAllW_cons hsh
  obtain rfl := hasAllW_nil h2
  obtain ⟨xs, rfl, h3⟩ := hasW_list h1
  obtain ⟨ns, rfl⟩ := items_int h3
  have hlen : ns.length ≤ n := by
    unfold OpenLaw.pre at hc
    have h4 : (WTm.not (.lt (.lit (.int (n : Int))) (.len (.arg 0)))).holds [] { args := [.list (ns.map .int)] } = true := by
      have h4 := (holds_andW hc).1
      rw [hn] at h4
      exact h4
    have h5 := condW_of h4 (w_not (w_lt w_lit (w_len_list (w_arg rfl))))
    rw [List.length_map] at h5
    refine Nat.le_of_not_lt fun q => ?_
    have q' : (n : Int) < ((ns.length : Nat) : Int) := by omega
    first
      | (rw [decide_eq_true q'] at h5; exact absurd h5 (by decide))
      | (simp at h5; omega)
  cases hwl with
  | cons w1 w2 =>
    cases w2
    cases w1 with
    | list ho hall => exact ⟨_, _, ns, rfl, rfl, ho, ints_of_wellAll ns _ hall, hlen⟩

theorem post_true (l : OpenLaw) (args : List WData) : l.row.toRowW.claim.post args (.bool true) args = true :=
  postW_of (r := l.row.toRowW) (X := (true == true))
    (show WShape.has [] (.bool true) .bool = true by first | rfl | decide | simp [WShape.has, WShape.arms, WShape.armsAll])
    (show (WTm.eq .res (.lit (.bool true))).value [] { args := args, res := some (.bool true), after := args } = some (.bool (true == true)) from w_eq_bool (w_res rfl) w_lit) rfl

/-- the same from a codeAny of the CALL (for a layer whose function contracts speak of calls) -/
theorem attach_call {l : OpenLaw} {n : Nat} {q : Program} {loose : List Str} {XP : (Str → Option Value) → Heap → Prop} {YP : World → Heap → Prop} {d : DefRec}
    (hn : l.most = some n) (hdf : d.params.defaults = [])
    (call : ∀ (w : World) (s₀ s₁ : Shared) (mg mb : Str → Option Value) (fa : Addr) (o : Obj) (pm cd doc : Value) (a : Addr) (vs : List Value) (ns : List Int),
      Ground q loose [] XP w s₀ mg mb s₁.heap → YP w s₁.heap →
      s₁.heap.get? fa = some o → o.data = .func (docDef d.name d.params d.body d.scope pm cd doc) → s₁.heap.CodeRec cd d.name → mg d.name = some (.ref fa) →
      s₁.heap.get? a = some { cls := .type "list", data := .seq vs.toArray } → IntsAre vs ns → ns.length ≤ n → s₁.gens = #[] →
      codeAny (model l.prog w) callerA (.call (.ref fa) ⟨[.ref a], []⟩) (fun r s' => r = .ok (.ret (.bool true)) ∧ OldK s₁.heap s'.heap ∧ s'.os = s₁.os ∧ AllBare s'.gens) s₁) :
    WalkO q loose XP YP l.row.toRowW d [] (fun f vs => PySem.call f vs) := by
  intro w s₀ s₁ mg mb G Y fa o pm cd doc dV kV ho hd hcd hD hmg hg args vals as hpre hlay hrd hwl hlo
  obtain rfl : dV = .none := Dflts.none hD hdf
  obtain rfl : kV = .none := Dflts.noKw hD
  obtain ⟨a, vs, ns, rfl, rfl, hobj, hints, hlen⟩ := script_of hn hpre hwl
  refine enter_call (codeAny_mono (call w s₀ s₁ mg mb fa o pm cd doc a vs ns G Y ho (fd_plain hd) hcd hmg hobj hints hlen hg) fun r s' hq => ?_)
  obtain ⟨rfl, h2, h3, h4⟩ := hq
  exact ⟨.inl ⟨.bool true, .bool true, [], rfl, fun _ => rfl, .bool true, post_true l _, fun _ => ⟨List.Pairwise.nil, fun _ hm => (nomatch hm)⟩⟩, h2, h3, h4⟩

end Att

namespace L2
open PySem PySem.Spec PyProof.Rows

theorem vals_ints : ∀ {vs : List Value} {ns : List Int}, IntsAre vs ns → Vals (ns.map V.int) vs
  | _, _, .nil => .nil
  | _, _, .cons n t h => .cons ⟨t, rfl⟩ (vals_ints h)

/-- nothing is tracked but the script, known to the object (or it is an object of the module) -/
def Only (H : Hp) : Prop := ∀ b, H b = none ∨ ∃ o xs, H b = some (.frz o (.lst xs))

/-- THE HEAD: the law's promise, at the heap behind the top. F, the promise of the law's def, may use that base is part of the heap (so K.In base, base.Ns mainGlobals mg stand in Mod) -/
theorem law_call {P : Program} {w : World} {K : PySem.W.Frag} {mg mb : Str → Option Value} {CX : CXT} {k : Nat} {fa a : Addr} {fd : FuncData} {x : Str} {sp : Sp} {s₁ : Shared} {vs : List Value} {ns : List Int}
    (KX : K.In s₁.heap) (hns : s₁.heap.Ns mainGlobals mg) (hb : s₁.heap.Ns builtinsNs mb) (hbb : ∀ x : Str, x ≠ "__name__" → mb x = bootBuiltins x) (hlim : s₁.heap.NoLimit) (hg : s₁.gens = #[])
    (ha : s₁.heap.get? a = some { cls := .type "list", data := .seq vs.toArray }) (hi : IntsAre vs ns) (hl : ns.length ≤ sizeLine) (hr : Room k callerA)
    (F : ∀ base : Heap, K.In base → base.Ns mainGlobals mg → FnOk P w K mg base CX k fa fd [x] sp) (hbind : ∀ (s : Shared) (u : Value), BindsTo s fd ⟨[u], []⟩ [(x, u)])
    (hsp : ∀ H : Hp, Only H → SqL K H a (ns.map V.int) → sp [.ref a] H (fun v _ => v = .bl true) fun _ _ _ => False)
    (hCX : ∀ H e s', CX [] H s₁ (fun _ _ _ => False) e s' → False) :
    codeAny (model P w) callerA (.call (.ref fa) ⟨[.ref a], []⟩) (fun r s' => r = .ok (.ret (.bool true)) ∧ OldK s₁.heap s'.heap ∧ s'.os = s₁.os ∧ AllBare s'.gens) s₁ := by
  have rv := vals_ints hi
  have lenV := hi.length
  -- from an abstract heap in which nothing but the script may be tracked
  have core : ∀ H : Hp, Only H → SqL K H a (ns.map V.int) → HOk P w H s₁.heap → (∀ b, H b ≠ none → b = a) → (H a ≠ none → K.lookup a = none) →
      codeAny (model P w) callerA (.call (.ref fa) ⟨[.ref a], []⟩) (fun r s' => r = .ok (.ret (.bool true)) ∧ OldK s₁.heap s'.heap ∧ s'.os = s₁.os ∧ AllBare s'.gens) s₁ := by
    intro H hO hS hok hA hK
    have base_of : ∀ {b : Addr} {o : Obj}, s₁.heap.get? b = some o → H b = none → (hidT s₁.heap H).get? b = some o := fun e n => hidT_get e n
    have noA : ∀ {b : Addr} {o : Obj} {es : Array DictEntry} {ep : Nat}, s₁.heap.get? b = some o → o.data = .dict es ep → H b = none := fun {b o es ep} e d => by
      cases q : H b with
      | none => rfl
      | some u =>
        have e' : b = a := hA b (by rw [q]; simp)
        subst e'
        rw [ha] at e; cases e
        have d' : Data.seq vs.toArray _ = Data.dict es ep := d
        cases d'
    have nsK : ∀ {b : Addr} {m : Str → Option Value}, s₁.heap.Ns b m → (hidT s₁.heap H).Ns b m := fun {b m} ⟨o, es, ep, e, d, r⟩ => ⟨o, es, ep, base_of e (noA e d), d, r⟩
    have hKb : K.In (hidT s₁.heap H) := fun b o e => base_of (KX b o e) (by
      cases q : H b with
      | none => rfl
      | some u =>
        have e' : b = a := hA b (by rw [q]; simp)
        subst e'
        rw [hK (by rw [q]; simp)] at e; cases e)
    have hM : Mod K mg (hidT s₁.heap H) := ⟨hKb, nsK hns, ⟨mb, nsK hb, hbb⟩, let ⟨mc, h1, h2⟩ := hlim; ⟨mc, nsK h1, h2⟩⟩
    have e0 : Env0 P w K mg (hidT s₁.heap H) callerA [] s₁ H := ⟨rfl, hM, fun b o e => of_hidT e, Nat.le_of_eq (hidT_size _ _), trivial, fun b hb => absurd (show b ∈ ([] : List Addr) from hb) (by simp), hok, .of_eq hg⟩
    refine codeAny_mono ((F _ hKb (nsK hns)).run callerA [] s₁ H ⟨[.ref a], []⟩ [.ref a] [.ref a] _ _ hr e0 (hbind s₁ (.ref a)) (.cons rfl .nil) (hsp H hO hS)) fun r s' h => ?_
    cases r with
    | error e => exact (hCX H e s' h).elim
    | ok fl =>
      cases fl with
      | next => exact False.elim h
      | brk => exact False.elim h
      | cont => exact False.elim h
      | ret u =>
        obtain ⟨v, H', os, bare, un, hok', r', q⟩ := h
        have q' : v = .bl true := q
        subst q'
        obtain rfl : u = Value.bool true := r'
        refine ⟨rfl, OldK.of_keep fun b o e => ?_, os, bare⟩
        cases q : H b with
        | none => exact un.keep b o e q (by intro z; exact absurd (show b ∈ ([] : List Addr) from z) (by simp)) (by simp)
        | some u =>
          rcases hO b with z | ⟨ob, xs, z⟩
          · rw [q] at z; cases z
          · have z2 := un.frzs b ob _ z
            obtain ⟨e1, _⟩ := hok b _ z
            obtain ⟨e2, _⟩ := hok' b _ z2
            rw [e] at e1; cases e1
            exact e2
  cases hk : K.lookup a with
  | some o =>
    -- the script is one of the module's own objects
    have e := KX a o hk
    rw [ha] at e
    cases e
    refine core (fun _ => none) (fun _ => .inl rfl) (.inr ⟨_, vs.toArray, _, hk, rfl, rfl, rfl, by rw [List.size_toArray, lenV]; exact hl, by simpa using rv⟩) (fun b u z => by have z' : (none : Option HO) = some u := z; cases z') (fun b z => absurd rfl z) fun z => absurd rfl z
  | none =>
    refine core (fun b => if b = a then some (.frz { cls := .type "list", data := .seq vs.toArray } (.lst (ns.map V.int))) else none) (fun b => ?_) (.inl (.inr ⟨{ cls := .type "list", data := .seq vs.toArray }, if_pos rfl⟩)) (fun b u z => ?_) (fun b z => ?_) fun _ => hk
    · by_cases hb : b = a
      · exact .inr ⟨_, _, if_pos hb⟩
      · exact .inl (if_neg hb)
    · by_cases hb : b = a
      · have z' := (if_pos hb).symm.trans z
        cases z'
        subst hb
        exact ⟨ha, by rw [List.length_map]; exact hl, vs, _, rv, ha⟩
      · have z' := (if_neg hb).symm.trans z
        cases z'
    · by_cases hb : b = a
      · exact hb
      · exact absurd (if_neg hb) z
end L2

namespace L2
open PySem PySem.Spec PyProof.Rows

/-- the goal that k_head leaves (case hc), from the law's promise. F gives the function object fd (K's own) once, then the promise over every base -/
theorem walk_of {l : PySem.W.OpenLaw} {n k : Nat} {q : Program} {loose : List Str} {XP : (Str → Option Value) → Heap → Prop} {YP : World → Heap → Prop} {d : DefRec} {K : Params → PySem.W.Frag} {CX : World → CXT} {sp : World → Sp} {x : Str}
    (hn : l.most = some n) (hn2 : n ≤ sizeLine) (hdf : d.params.defaults = []) (hr : Room k callerA)
    (hY : ∀ (w : World) (h : Heap), YP w h → (K w.params).In h)
    (F : ∀ (w : World) (mg : Str → Option Value) (fa : Addr) (h : Heap), (K w.params).In h → h.Ns mainGlobals mg → mg d.name = some (.ref fa) →
      ∃ fd : FuncData, (∀ (s : Shared) (u : Value), BindsTo s fd ⟨[u], []⟩ [(x, u)]) ∧
        ∀ base : Heap, (K w.params).In base → base.Ns mainGlobals mg → FnOk l.prog w (K w.params) mg base (CX w) k fa fd [x] (sp w))
    (hsp : ∀ (w : World) (H : Hp) (a : Addr) (ns : List Int), ns.length ≤ n → Only H → SqL (K w.params) H a (ns.map V.int) → sp w [.ref a] H (fun v _ => v = .bl true) fun _ _ _ => False)
    (hCX : ∀ (w : World) (H : Hp) (s : Shared) (e : Value) (s' : Shared), CX w [] H s (fun _ _ _ => False) e s' → False) :
    PySem.W.WalkO q loose XP YP l.row.toRowW d [] (fun f vs => PySem.call f vs) := by
  refine Att.attach_call hn hdf fun w s₀ s₁ mg mb fa o pm cd doc a vs ns G Y ho hd hcd hmg hobj hints hlen hg => ?_
  have KX := hY w _ Y
  obtain ⟨fd, hb, hF⟩ := F w mg fa _ KX G.T.g hmg
  exact law_call KX G.T.g G.T.b G.T.builtins G.T.nolimit hg hobj hints (Nat.le_trans hlen hn2) hr hF hb (fun H hO hS => hsp w H a ns hlen hO hS) fun H e s' => hCX w H s₁ e s'
end L2

namespace L2
open PySem PySem.Spec PyProof.Rows

def defArgs (s : Stmt) : Arguments := match s with
  | .FunctionDef _ a _ _ _ _ _ _ _ _ => a
  | _ => { posonlyargs := [], args := [], vararg := none, kwonlyargs := [], kw_defaults := [], kwarg := none, defaults := [] }
def defBody (s : Stmt) : List Stmt := match s with
  | .FunctionDef _ _ b _ _ _ _ _ _ _ => b
  | _ => []
def defScope (s : Stmt) : Scope := match s with
  | .FunctionDef _ _ _ _ _ _ sc _ _ _ => sc
  | _ => { kind := .function, names := [], isGenerator := false, isCoroutine := false }

abbrev CX0 : CXT := fun _ _ _ _ _ _ => False
abbrev E0 : XK := fun _ _ _ => False
theorem pass0 {X : Cx} : Passes CX0 X E0 := fun _ _ _ _ _ _ _ h => h.elim

structure Fun (K : PySem.W.Frag) (x qual : Str) (st : Stmt) (f : Addr) (fd : FuncData) : Prop where
  ex : ∃ (oc : Value) (od : Option Addr) (kV doc pm : Value) (an : Option Addr) (cdv ct : Value) (osl : Array (Option Value)),
    fd = PySem.W.fnOf x qual (defArgs st) (defBody st) (defScope st) .none kV doc pm an cdv ct ∧ K.lookup f = some ⟨oc, od, .func fd, osl⟩ ∧ PySem.W.codeIn K cdv qual = true
  kp : PySem.W.keepIn K (.ref f) = true
section
variable {P : Program} {w : World} {K : PySem.W.Frag} {mg : Str → Option Value} {base : Heap}
/-- THE RULE for a def: its body as a term of rules, and the reading of that term -/
theorem Fun.ok {x qual : Str} {st : Stmt} {f : Addr} {fd : FuncData} {N ps : List Str} {k : Nat} {sp : Sp} (F : Fun K x qual st f fd) (S : FnScope N ps (defScope st)) (len : ∀ vs H Q E, sp vs H Q E → vs.length = ps.length)
    (hbody : ∀ (cdv : Value) (A : Around) (outer : List Env) (s : Shared) (H : Hp) (vs : List V) (Q : VK) (E : XK), Room k (A.deeper (envOfC qual (defScope st) s.heap.objs.size f cdv)) → sp vs H Q E →
      ∃ t, PSs (cxOf CX0 P w K mg base N qual (defScope st) f cdv A outer s H E).nox (defBody st) t ∧ t { nx := fun _ H' => Q .non H', rt := Q } (start N vs) H) : FnOk P w K mg base CX0 (k + 1) f fd ps sp := by
  obtain ⟨oc, od, kV, doc, pm, an, cdv, ct, osl, rfl, lk, hcd⟩ := F.ex
  refine fn_of lk hcd S len fun A outer s H vs Q E hr hsp => ?_
  obtain ⟨t, h, q⟩ := hbody cdv A outer s H vs Q E hr hsp
  exact ⟨t, h.nox, q⟩
/-- how its arguments bind (no defaults): h is «fun _ _ _ _ _ _ us hl => match us, hl with | [_, _], _ => rfl», one _ a parameter -/
theorem Fun.binds {x qual : Str} {st : Stmt} {f : Addr} {fd : FuncData} {ps : List Str} (F : Fun K x qual st f fd)
    (h : ∀ (kV doc pm : Value) (an : Option Addr) (cdv ct : Value) (us : List Value), us.length = ps.length → bindArgs (PySem.W.fnOf x qual (defArgs st) (defBody st) (defScope st) .none kV doc pm an cdv ct) ⟨us, []⟩ = pure (ps.zip us)) : Binds K fd ps [] := by
  obtain ⟨oc, od, kV, doc, pm, an, cdv, ct, osl, rfl, lk, hcd⟩ := F.ex
  exact .all (h kV doc pm an cdv ct)
theorem fun_mk {x qual : Str} {st : Stmt} {f : Addr} {oc : Value} {od an : Option Addr} {osl : Array (Option Value)} {kV doc pm cdv ct : Value} (l : K.lookup f = some ⟨oc, od, .func (PySem.W.fnOf x qual (defArgs st) (defBody st) (defScope st) .none kV doc pm an cdv ct), osl⟩)
    (c : PySem.W.codeIn K cdv qual = true) (k : PySem.W.keepIn K (.ref f) = true) : Fun K x qual st f (PySem.W.fnOf x qual (defArgs st) (defBody st) (defScope st) .none kV doc pm an cdv ct) := ⟨⟨oc, od, kV, doc, pm, an, cdv, ct, osl, rfl, l, c⟩, k⟩
end
section
variable {X : Cx}
theorem pv (i : Nat) {x : Str} {pos : Pos} (hN : X.N[i]? = some x := by rfl) (hv : Vis X.env.scope x := by first | exact Or.inl rfl | exact Or.inr (Or.inl rfl) | exact Or.inr (Or.inr rfl)) (hd : (x == ("__debug__" : Str)) = false := by decide)
    (hcd : (x == ("__classdict__" : Str)) = false := by decide) : PE X (.Name x pos) (tVar i) := pe_var hN hv hd hcd
end

/-- all that was tracked is as it was -/
def Same (H H' : Hp) : Prop := ∀ b o, H b = some o → H' b = some o
theorem Same.refl (H : Hp) : Same H H := fun _ _ h => h
theorem Same.trans {H H1 H2 : Hp} (a : Same H H1) (b : Same H1 H2) : Same H H2 := fun c o h => b c o (a c o h)
theorem Same.free {H H' : Hp} (e : Same H H') {l : Addr} (h : H' l = Option.none) : H l = Option.none := by
  cases q : H l with
  | none => rfl
  | some o =>
    rw [e l o q] at h
    cases h
theorem Same.seq {K : PySem.W.Frag} {H H' : Hp} {a : Addr} {xs : List V} (e : Same H H') (h : SqL K H a xs) : SqL K H' a xs := by
  rcases h with (h | ⟨o, h⟩) | h
  · exact .inl (.inl (e _ _ h))
  · exact .inl (.inr ⟨o, e _ _ h⟩)
  · exact .inr h

end L2
namespace L2
open PySem PySem.Spec PyProof.Rows

def Has (P : Program) (w : World) (K : PySem.W.Frag) (mg : Str → Option Value) (base : Heap) (k : Nat) (x : Str) (ps : List Str) (sp : Sp) : Prop :=
  ∃ (f : Addr) (fd : FuncData), FnOk P w K mg base CX0 k f fd ps sp ∧ mg x = some (.ref f) ∧ PySem.W.keepIn K (.ref f) = true ∧ Binds K fd ps []
def tCallH (sp : Sp) (t : TA) : TE := fun σ H Q => t σ H fun vs H1 => sp vs H1 Q E0
section
variable {X : Cx} {k : Nat} {ps : List Str} {sp : Sp} {x : Str} {p pos : Pos} {e a c : Expr} {es : List Expr} {t : TA}
theorem pe_callH (C : Has X.prog X.w X.K X.mg X.base k x ps sp) (hr : Room k X.A) (hg : Gl X x) (ha : PA X (e :: es) t) (hdb : (x == ("__debug__" : Str)) = false := by decide) (he : starEach (e :: es) X.env = (false, eval e X.env) :: starEach es X.env := by rfl)
    (hpl : (backTo pos (starEach es X.env)).any (·.1) = false := by rfl) : PE X (.Call (.Name x p) (e :: es) [] pos) (tCallH sp t) := by
  obtain ⟨f, fd, F, hm, hk, hb⟩ := C
  intro pins s σ H Q I h
  refine wpAny_Call_Name_kw (ld_glob I hg hm ?_ hdb)
  refine PySem.W.callWith_K (h₀ := X.base) I.ok.mod.kin hk (thn (ha pos pins s σ H _ I h) fun us s1 ⟨vs, H1, I1, r, q⟩ => ⟨I1.kIn, ?_⟩) he hpl
  exact run_fn (dvs := []) F hr hb .nil pass0 I1 r (by rw [List.append_nil]; exact q)

theorem call_isinst : CallR X (.builtin "isinstance") (fun xs H Q => ∃ x n ty b, xs = [x, .ty n] ∧ TyOf X.K H x ty ∧ PySem.W.kitOne X.K ty (.type n) = some b ∧ Q (.bl b) H) := by
  intro pins s σ H xs us Q I r h
  obtain ⟨x, n, ty, b, rfl, hT, hk, q⟩ := h
  obtain ⟨u, w', rfl, r1, r2⟩ := vals2 r
  cases (show w' = Value.type n from r2)
  exact isinst_ok I r1 hT hk fun tk => ⟨.bl b, H, I.tok _, rfl, q⟩
end
theorem kit_same (K : PySem.W.Frag) (n : String) : PySem.W.kitOne K (.type n) (.type n) = some true := by
  unfold PySem.W.kitOne
  rw [if_pos (beq_self_eq_true _)]
theorem ifp {b : Bool} {A B : Prop} (h : b = true) (k : A) : if b = true then A else B := by rw [if_pos h]; exact k
theorem ifn {b : Bool} {A B : Prop} (h : b = false) (k : B) : if b = true then A else B := by rw [if_neg (by rw [h]; exact Bool.false_ne_true)]; exact k
theorem if2 {b : Bool} {A B : Prop} (h1 : b = true → A) (h2 : b = false → B) : if b = true then A else B := by
  cases b with
  | true => exact ifp rfl (h1 rfl)
  | false => exact ifn rfl (h2 rfl)
theorem of_eqF {x y : Int} (h : decide (V.int x = V.int y) = false) : x ≠ y := fun z => of_decide_eq_false h (by rw [z])
/-- an item of a list of ints, at a place in it -/
theorem atI_int {ns : List Int} {i : Int} (h0 : 0 ≤ i) (h1 : i < ns.length) : ∃ c, ns[i.toNat]? = some c ∧ atI (ns.map V.int) i = some (.int c) := by
  have hl : i.toNat < ns.length := by omega
  refine ⟨ns[i.toNat], List.getElem?_eq_getElem hl, ?_⟩
  have q : atI (ns.map V.int) ((i.toNat : Nat) : Int) = some (.int ns[i.toNat]) := atI_nat (by rw [List.getElem?_map, List.getElem?_eq_getElem hl]; rfl)
  rw [Int.toNat_of_nonneg h0] at q
  exact q
theorem mask31 (x : Int) : Builtin.bitAnd x 2147483647 = x % 2147483648 := PySem.W.kbt_mask x 31
end L2
namespace L2
open PySem PySem.Spec PyProof.Rows

def plainV : V → Bool
  | .int _ => true
  | .str _ => true
  | _ => false
theorem plain_flat {x : V} (h : plainV x = true) : flatV x = true := by
  cases x <;> (try (exact Bool.noConfusion (show false = true from h))) <;> rfl
theorem eqV_plain {x y : V} (hx : plainV x = true) (hy : plainV y = true) : eqV x y = decide (x = y) := by
  cases x <;> (try (exact Bool.noConfusion (show false = true from hx))) <;> cases y <;> (try (exact Bool.noConfusion (show false = true from hy))) <;> (rw [Bool.eq_iff_iff]; simp [eqV])
end L2
namespace L2
open PySem PySem.Spec PyProof.Rows

def Cx.blk (X : Cx) (N : List Str) (sc : Scope) (cl : List (Str × Addr)) (C : Addr) (s : Shared) (H : Hp) (ex : List Addr) : Cx where
  prog := X.prog
  w := X.w
  K := X.K
  mg := X.mg
  base := X.base
  A := X.A
  N := N
  s₀ := s
  H₀ := H
  env := compEnvC sc cl C X.env
  outer := X.stack
  stack := X.stack
  ex := ex
  fn := fun _ => false
  calm := X.calm
  pn := []
  xe := fun _ _ => False

/-- x: the block's own name; ys: the outer names that it reads, standing at the places js of the outer frame -/
structure BlkScope (osc : Scope) (N : List Str) (x : Str) (ys : List Str) (js : List Nat) (sc : Scope) : Prop where
  kind : sc.kind = .function
  nocell : ∀ y ∈ sc.names, y.2 ≠ .cell
  loc : ∀ y ∈ sc.names, y.2 = .local → sc.names.lookup y.1 = some .local
  var : sc.names.lookup x = some .local
  out : ∀ y ∈ sc.names, y.2 = .free → osc.names.lookup y.1 = some .cell ∨ osc.names.lookup y.1 = some .free
  free : ∀ y ∈ ys, sc.names.lookup y = some .free
  places : js.map (fun j => N[j]?) = ys.map some
  nd : (x :: ys).Nodup

theorem relabel_free {env : Env} : ∀ {names : List (Str × NameKind)} {x : Str}, names.lookup x = some .free →
    (names.map fun (n, k) => if (k == NameKind.free && env.scope.kind == .function && env.kindOf n == some .cell) then (n, NameKind.cell) else (n, k)).lookup x = some .cell ∨
    (names.map fun (n, k) => if (k == NameKind.free && env.scope.kind == .function && env.kindOf n == some .cell) then (n, NameKind.cell) else (n, k)).lookup x = some .free
  | [], _, h => by simp at h
  | (n, k) :: r, x, h => by
    have ih := @relabel_free env r x
    rw [List.map_cons]
    show List.lookup x ((if (k == NameKind.free && env.scope.kind == .function && env.kindOf n == some .cell) = true then (n, NameKind.cell) else (n, k)) :: _) = _ ∨ List.lookup x ((if (k == NameKind.free && env.scope.kind == .function && env.kindOf n == some .cell) = true then (n, NameKind.cell) else (n, k)) :: _) = _
    cases hx : x == n with
    | true =>
      simp only [List.lookup_cons, hx] at h
      cases h
      by_cases hc : (NameKind.free == NameKind.free && env.scope.kind == .function && env.kindOf n == some .cell) = true
      · rw [if_pos hc]; exact .inl (by simp [List.lookup_cons, hx])
      · rw [if_neg hc]; exact .inr (by simp [List.lookup_cons, hx])
    | false =>
      simp only [List.lookup_cons, hx] at h
      by_cases hc : (k == NameKind.free && env.scope.kind == .function && env.kindOf n == some .cell) = true
      · rw [if_pos hc]; simp only [List.lookup_cons, hx]; exact ih h
      · rw [if_neg hc]; simp only [List.lookup_cons, hx]; exact ih h
/-- a name that the block reads through a cell is one of its free names -/
theorem relabel_back {env : Env} : ∀ {names : List (Str × NameKind)} {x : Str}, (∀ y ∈ names, y.2 ≠ .cell) →
    ((names.map fun (n, k) => if (k == NameKind.free && env.scope.kind == .function && env.kindOf n == some .cell) then (n, NameKind.cell) else (n, k)).lookup x = some .cell ∨
    (names.map fun (n, k) => if (k == NameKind.free && env.scope.kind == .function && env.kindOf n == some .cell) then (n, NameKind.cell) else (n, k)).lookup x = some .free) → (x, NameKind.free) ∈ names
  | [], _, _, h => by simp at h
  | (n, k) :: r, x, hn, h => by
    have ih := @relabel_back env r x fun y hy => hn y (List.mem_cons_of_mem _ hy)
    rw [List.map_cons] at h
    have h' : List.lookup x ((if (k == NameKind.free && env.scope.kind == .function && env.kindOf n == some .cell) = true then (n, NameKind.cell) else (n, k)) :: (r.map fun (n, k) => if (k == NameKind.free && env.scope.kind == .function && env.kindOf n == some .cell) then (n, NameKind.cell) else (n, k))) = some .cell ∨ List.lookup x ((if (k == NameKind.free && env.scope.kind == .function && env.kindOf n == some .cell) = true then (n, NameKind.cell) else (n, k)) :: (r.map fun (n, k) => if (k == NameKind.free && env.scope.kind == .function && env.kindOf n == some .cell) then (n, NameKind.cell) else (n, k))) = some .free := h
    cases hx : x == n with
    | true =>
      have e : x = n := eq_of_beq hx
      by_cases hc : (k == NameKind.free && env.scope.kind == .function && env.kindOf n == some .cell) = true
      · have hk : k = .free := by
          cases k <;> first | rfl | (simp at hc)
        rw [e, hk]; exact List.mem_cons_self
      · rw [if_neg hc] at h'
        simp only [List.lookup_cons, hx] at h'
        rcases h' with h' | h'
        · have q : k = .cell := Option.some.inj h'
          exact absurd q (hn (n, k) List.mem_cons_self)
        · have q : k = .free := Option.some.inj h'
          rw [e, q]; exact List.mem_cons_self
    | false =>
      refine List.mem_cons_of_mem _ (ih ?_)
      by_cases hc : (k == NameKind.free && env.scope.kind == .function && env.kindOf n == some .cell) = true
      · rw [if_pos hc] at h'; simp only [List.lookup_cons, hx] at h'; exact h'
      · rw [if_neg hc] at h'; simp only [List.lookup_cons, hx] at h'; exact h'

/-- the cells that a block is handed -/
theorem closure_ok {sc : Scope} {env : Env} (h : ∀ y ∈ sc.names, y.2 = .free → ∃ c, env.cells.lookup y.1 = some c) :
    ∃ cl, closureFor sc env = pure cl ∧ (∀ y c, cl.lookup y = some c → env.cells.lookup y = some c) ∧ ∀ y ∈ sc.names, y.2 = .free → ∃ c, cl.lookup y.1 = some c := by
  have go : ∀ (l : List (Str × NameKind)) (acc : List (Str × Addr)), (∀ y ∈ l, y.2 = .free → ∃ c, env.cells.lookup y.1 = some c) → (∀ y c, acc.lookup y = some c → env.cells.lookup y = some c) →
      ∃ cl, (forIn l acc fun (x : Str × NameKind) (r : List (Str × Addr)) => if x.2 == .free then (do let c ← cellOf env x.1; pure (ForInStep.yield ((x.1, c) :: r)) : Sem (ForInStep (List (Str × Addr)))) else pure (ForInStep.yield r)) = pure cl ∧
        (∀ y c, cl.lookup y = some c → env.cells.lookup y = some c) ∧ (∀ y ∈ l, y.2 = .free → ∃ c, cl.lookup y.1 = some c) ∧ ∀ y, (∃ c, acc.lookup y = some c) → ∃ c, cl.lookup y = some c := by
    intro l
    induction l with
    | nil => intro acc _ ha; exact ⟨acc, rfl, ha, (fun _ z => nomatch z), fun _ z => z⟩
    | cons p l ih =>
      intro acc hl ha
      obtain ⟨n, k⟩ := p
      by_cases hk : k = .free
      · subst hk
        obtain ⟨c, hc⟩ := hl (n, .free) List.mem_cons_self rfl
        have ha' : ∀ y d, List.lookup y ((n, c) :: acc) = some d → env.cells.lookup y = some d := fun y d e => by
          rw [List.lookup_cons] at e
          cases q : y == n with
          | true => rw [q] at e; cases e; rw [eq_of_beq q]; exact hc
          | false => rw [q] at e; exact ha y d e
        obtain ⟨cl, e, h1, h2, h3⟩ := ih ((n, c) :: acc) (fun y hy => hl y (List.mem_cons_of_mem _ hy)) ha'
        have hco : cellOf env n = pure c := by unfold cellOf; rw [hc]
        refine ⟨cl, ?_, h1, fun y hy hf => ?_, fun y hy => h3 y ?_⟩
        · rw [List.forIn_cons]
          simp only [beq_self_eq_true, if_true]
          rw [hco]
          exact e
        · rcases List.mem_cons.mp hy with rfl | hy
          · exact h3 n ⟨c, by simp [List.lookup_cons]⟩
          · exact h2 y hy hf
        · obtain ⟨d, hd⟩ := hy
          rw [List.lookup_cons]
          cases y == n with
          | true => exact ⟨c, rfl⟩
          | false => exact ⟨d, hd⟩
      · obtain ⟨cl, e, h1, h2, h3⟩ := ih acc (fun y hy => hl y (List.mem_cons_of_mem _ hy)) ha
        refine ⟨cl, ?_, h1, fun y hy hf => ?_, h3⟩
        · rw [List.forIn_cons]
          have hb : (k == NameKind.free) = false := by simpa using hk
          simp only [hb, Bool.false_eq_true, if_false]
          exact e
        · rcases List.mem_cons.mp hy with rfl | hy
          · exact absurd hf hk
          · exact h2 y hy hf
  obtain ⟨cl, e, h1, h2, _⟩ := go sc.names [] h fun _ _ z => by simp at z
  refine ⟨cl, ?_, h1, h2⟩
  unfold closureFor
  show (forIn sc.names [] _ >>= fun cs => pure cs) = pure cl
  exact (congrArg (· >>= fun cs => pure cs) e).trans rfl
end L2
namespace L2
open PySem PySem.Spec PyProof.Rows

section
variable {X : Cx} {pins : List (Addr × Obj)} {σ : St} {H : Hp} {s : Shared} {x : Str} {ys : List Str} {js : List Nat} {sc : Scope} {cl : List (Str × Addr)} {fp : List Addr}
/-- the values that a block sees: its own name's (none yet), then the outer ones at js -/
def blkSt (js : List Nat) (σ : St) (v : Option V) : St := v :: js.map fun j => σ.getD j none

theorem blk_ok (I : Inv X pins σ H s) (S : BlkScope X.env.scope X.N x ys js sc) (h1 : ∀ y c, cl.lookup y = some c → X.env.cells.lookup y = some c) (h2 : ∀ y ∈ sc.names, y.2 = .free → ∃ c, cl.lookup y.1 = some c)
    (hf : ∀ b ∈ fp, FpOk X pins H b) (hl : ∀ b ∈ fp, b < s.heap.objs.size) : (X.blk (x :: ys) sc cl s.heap.objs.size s H fp).Ok where
  mod := I.ok.mod
  kind := S.kind
  glob := I.ok.glob
  blt := I.ok.blt
  above := Nat.le_refl _
  inj := fun y z c e1 e2 => I.ok.inj y z c (h1 y c e1) (h1 z c e2)
  has := fun y hy => h2 (y, .free) (relabel_back S.nocell hy) rfl
  cab := fun y c e => nomatch e
  hd := I.ok.hd
  frames := I.ok.frames
  stk := .inl rfl
  exf := fun b hb => ⟨Nat.ne_of_lt (hl b hb), fun y c e => (hf b hb).2.2.2.2.1 y c (h1 y c e)⟩
  bs := I.bs
  bsz := Nat.le_trans I.ok.bsz I.sz
  noex := fun b o e hb => by
    rcases (hf b hb).2.2.2.1 with z | z
    · exact I.ok.noex b o e z
    · exact absurd (Nat.lt_of_lt_of_le (Heap.lt_size e) (Nat.le_trans I.ok.bsz z)) (Nat.lt_irrefl _)
  exfs := fun b hb z => by
    rcases List.mem_cons.mp (I.stkSub b z) with q | q
    · exact (hf b hb).2.1 q
    · exact (hf b hb).2.2.1 q
  funs := I.stack
  frf := I.stkFree

theorem blk_start {h' : Heap} {t' : Nat} {m : Str → Option Value} (I : Inv X pins σ H s) (S : BlkScope X.env.scope X.N x ys js sc) (h1 : ∀ y c, cl.lookup y = some c → X.env.cells.lookup y = some c) (h2 : ∀ y ∈ sc.names, y.2 = .free → ∃ c, cl.lookup y.1 = some c)
    (hf : ∀ b ∈ fp, FpOk X pins H b) (hl : ∀ b ∈ fp, b < s.heap.objs.size) (hn : h'.Ns s.heap.objs.size m) (hk : ∀ b o, s.heap.get? b = some o → h'.get? b = some o) :
    Inv (X.blk (x :: ys) sc cl s.heap.objs.size s H fp) [] (blkSt js σ none) H { s with heap := h', toks := t' } where
  ok := blk_ok I S h1 h2 hf hl
  os := rfl
  bare := I.bare
  base := Un.kept hk
  loc := ⟨m, hn, fun i y v e1 e2 e3 => by
    cases i with
    | zero => cases (show some (none : Option V) = some (some v) from e2)
    | succ i =>
      have e1 : ys[i]? = some y := e1
      have e2 : (js.map fun j => σ.getD j none)[i]? = some (some v) := e2
      rw [List.getElem?_map] at e2
      cases ej : js[i]? with
      | none => rw [ej] at e2; cases e2
      | some j =>
        rw [ej] at e2
        have e2 : σ.getD j none = some v := Option.some.inj e2
        have e4 : σ[j]? = some (some v) := by
          cases q : σ[j]? with
          | none => rw [List.getD_eq_getElem?_getD, q] at e2; cases e2
          | some u => rw [List.getD_eq_getElem?_getD, q] at e2; rw [← e2]; rfl
        have e5 : X.N[j]? = some y := by
          have q := congrArg (fun l => l[i]?) S.places
          simp only [List.getElem?_map, ej, e1, Option.map_some] at q
          exact Option.some.inj q
        have e6 : (y, NameKind.free) ∈ sc.names := PySem.mem_of_lookup (S.free y (List.mem_of_getElem? e1))
        have e7 := S.out _ e6 rfl
        obtain ⟨m0, _, hl0⟩ := I.loc
        obtain ⟨u, r, lk⟩ := hl0 j y v e5 e4 (e7.elim (fun z => .inr (.inl z)) fun z => .inr (.inr z))
        refine ⟨u, r, .inr ⟨relabel_free (S.free y (List.mem_of_getElem? e1)), ?_⟩⟩
        rcases lk with ⟨k, _⟩ | ⟨_, c, ec, z⟩
        · have k : X.env.scope.names.lookup y = some .local := k
          rcases e7 with z | z <;> (rw [k] at z; cases z)
        · obtain ⟨c', ec'⟩ := h2 _ e6 rfl
          have q := h1 _ _ ec'
          have q : X.env.cells.lookup y = some c' := q
          rw [ec] at q; cases q
          obtain ⟨o, ho, hd⟩ := z
          exact ⟨c, ec', o, hk _ _ ho, hd⟩⟩
  cell := fun y c e => by
    obtain ⟨v, o, ho, hd⟩ := I.cell y c (h1 y c e)
    exact ⟨v, o, hk _ _ ho, hd⟩
  free := I.hok.fresh (Nat.le_refl _)
  freeC := fun y c e => I.freeC y c (h1 y c e)
  pin := fun p hp => absurd (show p ∈ ([] : List (Addr × Obj)) from hp) (by simp)
  hok := I.hok.kept hk
  len := by
    show (none :: js.map fun j => σ.getD j none).length = (x :: ys).length
    have q := congrArg List.length S.places
    simp only [List.length_map] at q
    simp [q]

/-- behind the block -/
theorem blk_end {H5 : Hp} {s5 : Shared} {σ5 : St} {pl : List (Addr × Obj)} (I : Inv X pins σ H s) (hf : ∀ b ∈ fp, FpOk X pins H b) (J : Inv (X.blk (x :: ys) sc cl s.heap.objs.size s H fp) pl σ5 H5 s5) :
    Inv X pins σ H5 s5 ∧ FpOk X pins H5 s.heap.objs.size ∧ ∃ oC m, s5.heap.get? s.heap.objs.size = some oC ∧ (∀ h : Heap, h.get? s.heap.objs.size = some oC → h.Ns s.heap.objs.size m) ∧ Inv X (pins ++ [(s.heap.objs.size, oC)]) σ H5 s5 := by
  have I5 : Inv X pins σ H5 s5 := I.call' (ch := fp) J.os J.base J.hok J.bare fun b hb => ⟨(hf b hb).2.2.2.1, (hf b hb).2.1, (hf b hb).2.2.2.2.1, (hf b hb).2.2.2.2.2⟩
  have F5 : FpOk X pins H5 s.heap.objs.size := I.fpOk (Nat.le_refl _) J.free
  obtain ⟨m, ⟨o, es, ep, ho, hd, r⟩, _⟩ := J.loc
  refine ⟨I5, F5, o, m, ho, fun h e => ⟨o, es, ep, e, hd, r⟩, I5.pins_of fun p hp => ?_⟩
  rcases List.mem_append.mp hp with z | z
  · exact I5.pin p (List.mem_append_right _ z)
  · have z : p = (s.heap.objs.size, o) := by simpa using z
    subst z
    exact ⟨ho, J.free, F5.2.1, F5.2.2.1, fun v q => by rw [hd] at q; cases q⟩
end

/-- the tests of a comprehension -/
def PTs (X : Cx) (ifs : List Expr) (t : TT) : Prop :=
  ∀ (pins : List (Addr × Obj)) (s : Shared) (σ : St) (H : Hp) (Q : Bool → Hp → Prop), Inv X pins σ H s → t σ H Q →
    wpAny (model X.prog X.w) X.A (forIn ifs true fun c r => if r = true then do let ok ← isTrue c X.env (eval c X.env); pure (ForInStep.yield ok) else pure (ForInStep.yield r)) (TP X pins σ Q) X.xe s
def tAll : TT := fun _ H Q => Q true H
theorem pts_nil {X : Cx} : PTs X [] tAll := fun _ _ _ H _ I h => wpAny_tests_nil ⟨H, I, h⟩
/-- what a comprehension's walk wants: W the invariant by turn, measure, what is gathered so far (the list at D) -/
def CompBy (js : List Nat) (tc : TT) (te : TE) (σ : St) (J : It) (H : Hp) (Fin : Addr → Hp → Prop) : Prop :=
  ∀ D, H D = none → ∃ W : Nat → Nat → List V → Hp → Prop, (∃ m, W 0 m [] (upd H D (.lst []))) ∧ ∀ i m ys H', W i m ys H' → H' D = some (.lst ys) ∧
    ((J.stop i H' ∧ Fin D H') ∨ (J.go i H' ∧ ∃ N : List V → Hp → Prop, (∀ zs H'', N zs H'' → ∃ m', m' < m ∧ W (i + 1) m' zs H'') ∧ ∀ v H2, J.yld i H' v H2 → tc (blkSt js σ (some v)) H2 fun b H3 =>
      if b = true then te (blkSt js σ (some v)) H3 fun y H4 => H4 D = some (.lst ys) ∧ ys.length < sizeLine ∧ N (ys ++ [y]) (upd H4 D (.lst (ys ++ [y]))) else N ys H3))

section
variable {X : Cx} {pins : List (Addr × Obj)} {σ : St} {H : Hp} {s : Shared} {x : Str} {ys : List Str} {js : List Nat} {sc : Scope} {cl : List (Str × Addr)} {fp : List Addr}
theorem comp_block {elt iter : Expr} {ifs : List Expr} {px pos : Pos} {tc : TT} {te : TE} {J : It} {it : Addr} {tn : Nat → Heap → Prop} {Fin : Addr → Hp → Prop} {E : Value → Shared → Prop} {RR : Value → Addr → Result → Shared → Prop}
    (hc : X.calm = true) (I : Inv X pins σ H s) (S : BlkScope X.env.scope X.N x ys js sc) (h1 : ∀ y c, cl.lookup y = some c → X.env.cells.lookup y = some c) (h2 : ∀ y ∈ sc.names, y.2 = .free → ∃ c, cl.lookup y.1 = some c)
    (T : Turn X.prog X.w X.K (.Name x px) J fp it tn) (st : tn 0 s.heap) (hf : ∀ b ∈ fp, FpOk X pins H b)
    (ht : ∀ cl C s H ex, PTs (X.blk (x :: ys) sc cl C s H ex) ifs tc) (he : ∀ cl C s H ex, PE (X.blk (x :: ys) sc cl C s H ex) elt te)
    (hw : CompBy js tc te σ J H Fin)
    (hRR : ∀ D C oC m s5 H5, Inv X pins σ H5 s5 → FpOk X pins H5 C → s5.heap.get? C = some oC → (∀ h : Heap, h.get? C = some oC → h.Ns C m) → Inv X (pins ++ [(C, oC)]) σ H5 s5 → Fin D H5 → RR (.ref D) C (.ok .next) s5) :
    wpAny (model X.prog X.w) X.A (newList []) (fun acc s₃ => wpAny (model X.prog X.w) X.A (newFunctionEnv sc X.env.globals cl [] X.env.qual none .none (some X.env)) (fun cenv s₄ =>
      codeAny (model X.prog X.w) X.A (.compStart (.ListComp elt [⟨.Name x px, iter, ifs, 0⟩] sc pos) 0 (.ref it) acc { cenv with scope := relabel sc X.env }) (RR acc cenv.locals) s₄) E s₃) E s := by
  refine wpAny_newObj_type (wpAny_newFunctionEnv S.nocell (by intro y hy; simp at hy) (fun h₁ hns₁ hsb₁ => ?_) S.kind)
  have hD : H s.heap.objs.size = none := I.hok.fresh (Nat.le_refl _)
  have I1 : Inv X pins σ (upd H s.heap.objs.size (.lst [])) { s with heap := s.heap.push { cls := .type "list", dict := none, data := .seq ([] : List Value).toArray }, toks := s.toks } :=
    I.laid (t' := s.toks) (fun b u e => Heap.get?_push_of_some _ e) (Nat.le_refl _) ⟨Nat.zero_le _, [], 0, .nil, Heap.get?_push_size _ rfl⟩
  have hfl : ∀ b ∈ fp, b < s.heap.objs.size := fun b hb => by
    obtain ⟨o, e, _⟩ := T.obj 0 _ st b hb
    exact Heap.lt_size e
  generalize hs1 : ({ s with heap := s.heap.push { cls := .type "list", dict := none, data := .seq ([] : List Value).toArray }, toks := s.toks } : Shared) = s1 at I1
  have sz1 : s1.heap.objs.size = s.heap.objs.size + 1 := by rw [← hs1]; exact Heap.size_push _ _
  have old : ∀ b o, s.heap.get? b = some o → s1.heap.get? b = some o := fun b o e => by rw [← hs1]; exact Heap.get?_push_of_some _ e
  rw [hs1] at hns₁ hsb₁
  try rw [hs1]
  have hf1 : ∀ b ∈ fp, FpOk X pins (upd H s.heap.objs.size (.lst [])) b := fun b hb => ⟨by rw [upd_ne (Nat.ne_of_lt (hfl b hb))]; exact (hf b hb).1, (hf b hb).2⟩
  have hfl1 : ∀ b ∈ fp, b < s1.heap.objs.size := fun b hb => by rw [sz1]; exact Nat.lt_succ_of_lt (hfl b hb)
  have old1 : ∀ b o, s1.heap.get? b = some o → h₁.get? b = some o := fun b o e => hsb₁.extBut b o (Nat.ne_of_lt (Heap.lt_size e)) (Heap.get?_push_of_some _ e)
  have I2 := blk_start (t' := s1.toks + ([] : List (Str × Value)).length) I1 S h1 h2 hf1 hfl1 hns₁ old1
  have st2 : tn 0 h₁ := T.keep 0 _ _ st fun b _ o e => old1 b o (old b o e)
  obtain ⟨W, ⟨m0, w0⟩, turn⟩ := hw s.heap.objs.size hD
  have fr0 : ∀ b ∈ fp, (upd H s.heap.objs.size (.lst [])) b = none := fun b hb => (hf1 b hb).1
  -- what stays true of the iterator's objects in the block
  have stat : ∀ {H' : Hp} {pl : List (Addr × Obj)}, (∀ b ∈ fp, H' b = none) → (∀ b ∈ fp, ∀ p ∈ pl, p.1 ≠ b) → ∀ b ∈ fp, FpOk (X.blk (x :: ys) sc cl s1.heap.objs.size s1 (upd H s.heap.objs.size (.lst [])) fp) pl H' b := fun hn hp b hb =>
    ⟨hn b hb, (I2.ok.exf b hb).1, I2.ok.exfs b hb, .inl hb, (I2.ok.exf b hb).2, fun p hpp => hp b hb p (by simpa [Cx.blk] using hpp)⟩
  have loop : codeAny (model X.prog X.w) X.A (.compLoop (.ListComp elt [⟨.Name x px, iter, ifs, 0⟩] sc pos) 0 (.ref it) (.ref s.heap.objs.size) (compEnvC sc cl s1.heap.objs.size X.env)) (RR (.ref s.heap.objs.size) s1.heap.objs.size)
      { s1 with heap := h₁, toks := s1.toks + ([] : List (Str × Value)).length } := by
    refine codeAny_compLoop_tests (fun n s' => ∃ i zs H', Inv (X.blk (x :: ys) sc cl s1.heap.objs.size s1 (upd H s.heap.objs.size (.lst [])) fp) [] (blkSt js σ none) H' s' ∧ tn i s'.heap ∧ (∀ b ∈ fp, H' b = none) ∧ W i n zs H') ?_ m0 ⟨0, [], _, I2, st2, fr0, w0⟩
    rintro n s3 ⟨i, zs, H3, I3, st3, fr3, w3⟩
    obtain ⟨hD3, tr⟩ := turn i n zs H3 w3
    rcases tr with ⟨stop, fin⟩ | ⟨go, N, hN, step⟩
    · refine thn (T.done (X.blk (x :: ys) sc cl s1.heap.objs.size s1 (upd H s.heap.objs.size (.lst [])) fp) rfl rfl rfl hc i [] s3 _ H3 _ I3 (stat fr3 (fun _ _ _ z => nomatch z)) st3 stop) fun r s4 ⟨hr, I4⟩ => ?_
      subst hr
      obtain ⟨I5, F5, oC, m, ho, hns, I6⟩ := blk_end I1 hf1 I4
      exact hRR _ _ oC m _ _ I5 F5 ho hns I6 fin
    · refine thn (T.item (X.blk (x :: ys) sc cl s1.heap.objs.size s1 (upd H s.heap.objs.size (.lst [])) fp) rfl rfl rfl hc i [] s3 _ H3 _ I3 (stat fr3 (fun _ _ _ z => nomatch z)) st3 go) fun r s4 ⟨u, hr, h4⟩ => ?_
      subst hr
      show wpAny _ _ (letOwnedTupleGo (.Name x px) (.ref it) u >>= fun _ => assign (.Name x px) (compEnvC sc cl s1.heap.objs.size X.env) u) _ _ s4
      refine wpAny_bind (thn h4 fun _ s5 ⟨v, H5, I5, r5, y5, st5, fr5⟩ => ?_)
      have I5' := I5.pinned (stat fr5 (fun _ _ _ z => nomatch z)) (T.obj _ _ st5)
      refine wpAny_mono (pg_name (X := X.blk (x :: ys) sc cl s1.heap.objs.size s1 (upd H s.heap.objs.size (.lst [])) fp) (i := 0) (pos := px) S.nd rfl (.inl (lookup_relabel_local S.var)) (.inr (lookup_relabel_local S.var)) _ s5 _ H5 v u (fun σ' H' => σ' = blkSt js σ (some v) ∧ H' = H5) I5' r5 ⟨rfl, rfl⟩)
        (fun _ s6 ⟨σ6, H6, I6, e6, e7⟩ => ?_) (fun _ _ z => nomatch z)
      subst e6; subst e7
      refine wpAny_mono (ht _ _ _ _ _ _ s6 _ _ _ I6 (step v H6 y5)) (fun b s7 ⟨H7, I7, q7⟩ => ?_) (fun _ _ z => nomatch z)
      -- the turn's end
      have again : ∀ {σ8 : St} {H8 : Hp} {s8 : Shared} {zs' : List V}, Inv (X.blk (x :: ys) sc cl s1.heap.objs.size s1 (upd H s.heap.objs.size (.lst [])) fp) ([] ++ pinsAt fp s5.heap) (blkSt js σ (some v)) H8 s8 → N zs' H8 →
          ∃ m, m < n ∧ ∃ i zs H', Inv (X.blk (x :: ys) sc cl s1.heap.objs.size s1 (upd H s.heap.objs.size (.lst [])) fp) [] (blkSt js σ none) H' s8 ∧ tn i s8.heap ∧ (∀ b ∈ fp, H' b = none) ∧ W i m zs H' := by
        intro σ8 H8 s8 zs' I8 n8
        obtain ⟨m', hm, w8⟩ := hN _ _ n8
        refine ⟨m', hm, i + 1, zs', H8, (Inv.unpinned I8).weak rfl (fun k w e => ?_), T.keep _ _ _ st5 fun b hb o e => (I8.pin (b, o) (List.mem_append_right _ (List.mem_append_right _ (mem_pinsAt hb e)))).1, fun b hb => ?_, w8⟩
        · cases k with
          | zero => cases (show some (none : Option V) = some (some w) from e)
          | succ k => exact e
        · obtain ⟨o, e, d⟩ := T.obj _ _ st5 b hb
          exact (I8.pin (b, o) (List.mem_append_right _ (List.mem_append_right _ (mem_pinsAt hb e)))).2.1
      cases b with
      | false =>
        rw [if_neg Bool.false_ne_true] at q7
        rw [if_neg Bool.false_ne_true]
        exact again (σ8 := []) I7 q7
      | true =>
        rw [if_pos rfl] at q7
        rw [if_pos rfl]
        refine wpAny_mono (he _ _ _ _ _ _ s7 _ _ _ I7 q7) (fun u8 s8 ⟨y8, H8, I8, r8, hD8, hz8, q8⟩ => ?_) (fun _ _ z => nomatch z)
        refine wpAny_mono (mt_append (X := X.blk (x :: ys) sc cl s1.heap.objs.size s1 (upd H s.heap.objs.size (.lst [])) fp) _ s8 _ H8 (.ref s.heap.objs.size) [y8] (.ref s.heap.objs.size) [u8] (fun _ H9 => H9 = upd H8 s.heap.objs.size (.lst (zs ++ [y8]))) I8 rfl (.cons r8 .nil)
          ⟨_, zs, y8, rfl, rfl, hD8, hz8, rfl⟩) (fun _ s9 ⟨_, H9, I9, _, e9⟩ => ?_) (fun _ _ z => nomatch z)
        subst e9
        exact again (σ8 := []) I9 q8
  exact codeAny_compStart_list loop (T.self X.A 0 _ _ _ st2 loop)
end

/-- y = [elt for x in iter if ..], the stores exchanged -/
def tSetC (i : Nat) (wi : TI) (js : List Nat) (tc : TT) (te : TE) : TS := fun D σ H => wi σ H fun J H1 => CompBy js tc te σ J H1 fun a H2 => D.nx (σ.set i (some (.ref a))) H2
section
variable {X : Cx} {elt iter : Expr} {x : Str} {ys : List Str} {js : List Nat} {sc : Scope} {ifs : List Expr} {px pos : Pos} {wi : TI} {tc : TT} {te : TE}
theorem blk_cells {pins : List (Addr × Obj)} {σ : St} {H : Hp} {s : Shared} (I : Inv X pins σ H s) (S : BlkScope X.env.scope X.N x ys js sc) : ∀ y ∈ sc.names, y.2 = .free → ∃ c, X.env.cells.lookup y.1 = some c := fun y hy hf => I.ok.has y.1 (S.out y hy hf)
theorem ps_setC {i : Nat} {y : Str} {py spos : Pos} (hN : X.N.Nodup) (hiN : X.N[i]? = some y) (hy : X.env.scope.names.lookup y = some .local) (S : BlkScope X.env.scope X.N x ys js sc) (hc : X.calm = true) (hi : PI X (.Name x px) iter wi)
    (ht : ∀ cl C s H ex, PTs (X.blk (x :: ys) sc cl C s H ex) ifs tc) (he : ∀ cl C s H ex, PE (X.blk (x :: ys) sc cl C s H ex) elt te)
    (hsw : swapsWith (.ListComp elt [⟨.Name x px, iter, ifs, 0⟩] sc pos) (some (.Name y py)) spos.line X.env = pure true := by rfl)
    (hs : ∀ v, foldedSetIterable iter X.env v = pure v := by intro _; rfl) : PS X (.Assign [.Name y py] (.ListComp elt [⟨.Name x px, iter, ifs, 0⟩] sc pos) spos) (tSetC i wi js tc te) := by
  intro pins s σ H D I h
  obtain ⟨cl, ecl, h1, h2⟩ := closure_ok (blk_cells I S)
  rw [exec_Assign_Name_used _ _ _ _ hsw]
  refine wpAny_bind (wpAny_standAt (wpAny_bind ?_))
  show wpAny _ X.A (do let _ ← comprehension (.ListComp elt [⟨.Name x px, iter, ifs, 0⟩] sc pos) sc X.env _ (newList []) false (eval iter X.env) (some (assign (.Name y py) X.env))) _ _ s
  refine wpAny_bind (wpAny_mono (wpAny_comprehension_free (use := some (assign (.Name y py) X.env)) (Q := fun _ s' => SP X pins D .next s') rfl hs ecl S.kind S.loc (thn (hi pins s σ H _ I h) fun v s1 hv => thn hv fun itv s2 h2' => ?_))
    (fun _ s' hq => wpAny_pure (wpAny_pure hq)) fun _ _ e => e)
  obtain ⟨it, fp, tn, J, H2, e, I2, T, st2, f2, q2⟩ := h2'
  subst e
  refine comp_block (RR := fun acc C => compPost (model X.prog X.w) X.A X.xe (some (assign (.Name y py) X.env)) (fun _ s' => SP X pins D .next s') acc C) hc I2 S h1 h2 T st2 f2 ht he q2 ?_
  intro a C oC m s5 H5 I5 F5 ho hns I6 fin
  show wpAny _ X.A (assign (.Name y py) X.env (.ref a)) _ _ s5
  refine wpAny_mono (pg_name (X := X) (i := i) (pos := py) hN hiN (.inl hy) (.inr hy) _ s5 σ H5 (.ref a) (.ref a) (fun σ' H' => σ' = σ.set i (some (.ref a)) ∧ H' = H5) I6 rfl ⟨rfl, rfl⟩) (fun _ s6 ⟨σ6, H6, I7, e6, e7⟩ => ?_) fun _ _ e => e
  subst e6; subst e7
  have hC6 : s6.heap.get? C = some oC := (I7.pin (C, oC) (List.mem_append_right _ (List.mem_append_right _ (by simp)))).1
  refine ⟨m, hns _ hC6, fun h' hs' => ⟨_, H6, ?_, fin⟩⟩
  exact (Inv.unpinned I7).turned (t' := s6.toks) (fun b o hb e => hs'.extBut b o hb e) F5.1 F5.2.1 F5.2.2.2.1 F5.2.2.2.2.1 F5.2.2.2.2.2
end

end L2
namespace L2
open PySem PySem.Spec PyProof.Rows

def TupKeep (H H' : Hp) : Prop := ∀ b xs, H b = some (.tup xs) → H' b = some (.tup xs)
theorem Same.tk {H H' : Hp} (s : Same H H') : TupKeep H H' := fun b xs e => s b _ e
theorem TupKeep.trans {H H1 H2 : Hp} (a : TupKeep H H1) (b : TupKeep H1 H2) : TupKeep H H2 := fun c xs e => b c xs (a c xs e)
theorem TupKeep.upd {H : Hp} {D : Addr} {o : HO} (h : ∀ xs, H D ≠ some (.tup xs)) : TupKeep H (upd H D o) := fun b xs e => by
  rw [upd_ne (by rintro rfl; exact h xs e)]; exact e
theorem Same.upd {H H' : Hp} {D : Addr} {o : HO} (s : Same H H') (h : H D = none) : Same H (upd H' D o) := fun b u e => by
  rw [upd_ne (by rintro rfl; rw [h] at e; cases e)]; exact s b u e
theorem Same.new {H : Hp} {D : Addr} {o : HO} (h : H D = none) : Same H (L2.upd H D o) := Same.upd (Same.refl H) h
theorem Same.seqT {K : PySem.W.Frag} {H H' : Hp} {a : Addr} {xs : List V} (e : Same H H') (h : SqT K H a xs) : SqT K H' a xs := by
  rcases h with (h | ⟨o, h⟩) | h
  · exact .inl (.inl (e _ _ h))
  · exact .inl (.inr ⟨o, e _ _ h⟩)
  · exact .inr h

theorem prd_append {α β : Type} {R : α → β → Prop} : ∀ {a a' : List α} {b b' : List β}, Paired R a b → Paired R a' b' → Paired R (a ++ a') (b ++ b')
  | _, _, _, _, .nil, q => q
  | _, _, _, _, .cons r t, q => .cons r (prd_append t q)
theorem prd_len {α β : Type} {R : α → β → Prop} : ∀ {a : List α} {b : List β}, Paired R a b → a.length = b.length
  | _, _, .nil => rfl
  | _, _, .cons _ t => congrArg (· + 1) (prd_len t)
theorem prd_get {α β : Type} {R : α → β → Prop} : ∀ {a : List α} {b : List β} {i : Nat} {y : β}, Paired R a b → b[i]? = some y → ∃ x, a[i]? = some x ∧ R x y
  | _, _, _, _, .nil, e => by simp at e
  | _, _, 0, _, .cons r _, e => by simp at e; subst e; exact ⟨_, rfl, r⟩
  | _, _, i + 1, y, .cons _ t, e => by
    obtain ⟨x, h1, h2⟩ := prd_get (i := i) (y := y) t (by simpa using e)
    exact ⟨x, by simpa using h1, h2⟩
theorem prd_imp {α β : Type} {R S : α → β → Prop} (f : ∀ x y, R x y → S x y) : ∀ {a : List α} {b : List β}, Paired R a b → Paired S a b
  | _, _, .nil => .nil
  | _, _, .cons r t => .cons (f _ _ r) (prd_imp f t)
theorem it_list {K : PySem.W.Frag} {H : Hp} {a : Addr} {β : Type} (bs : List β) (val : β → V) (h : SqL K H a (bs.map val)) : ∀ H', Same H H' → (∀ i b, bs[i]? = some b → (Itl K a).go i H' ∧ ∀ v H2, (Itl K a).yld i H' v H2 → v = val b ∧ H2 = H') ∧ (Itl K a).stop bs.length H' := by
  intro H' sm
  have h' := sm.seq h
  have e1 : ∀ i b, bs[i]? = some b → (bs.map val)[i]? = some (val b) := fun i b e => by rw [List.getElem?_map, e]; rfl
  refine ⟨fun i b e => ⟨⟨_, _, h', e1 i b e⟩, fun v H2 y => ⟨?_, y.1⟩⟩, ⟨_, h', by simp⟩⟩
  have q := y.2 _ h'
  rw [e1 i b e] at q
  exact (Option.some.inj q).symm
end L2
namespace L2
open PySem PySem.Spec PyProof.Rows

section
variable {X : Cx} {pins : List (Addr × Obj)} {σ : St} {H : Hp} {s : Shared}
/-- behind a built-in that keeps all objects -/
theorem Inv.keptAll {s1 : Shared} (I : Inv X pins σ H s) (k : ∀ b o, s.heap.get? b = some o → s1.heap.get? b = some o) (eg : s1.gens = s.gens) (eo : s1.os = s.os) : Inv X pins σ H s1 :=
  I.call' (ch := []) eo (Un.kept k) (I.hok.kept k) (by rw [eg]; exact I.bare) (fun b z => absurd z (by simp))
end
end L2
namespace L2
open PySem PySem.Spec PyProof.Rows
theorem two_le : 2 ≤ sizeLine := by decide
section
variable {X : Cx} {pins : List (Addr × Obj)} {σ : St} {H : Hp} {s : Shared}
/-- the iterator's objects have turned, a new object is laid and tracked -/
theorem Inv.turnedNew {fp : List Addr} {T : Addr} {o : HO} {h' : Heap} {t' : Nat} (I : Inv X pins σ H s) (k : ∀ b o, b ∉ fp → s.heap.get? b = some o → h'.get? b = some o) (hf : ∀ b ∈ fp, FpOk X pins H b) (hT : s.heap.objs.size ≤ T)
    (new : ObjOk X.prog X.w (upd H T o) h' T o) : Inv X pins σ (upd H T o) { s with heap := h', toks := t' } := by
  have nT : H T = none := I.hok.fresh hT
  have neT : ∀ b ob, s.heap.get? b = some ob → b ≠ T := fun b ob e z => by
    have := Heap.lt_size e
    rw [z] at this
    exact absurd (Nat.lt_of_lt_of_le this hT) (Nat.lt_irrefl _)
  have up : ∀ b u, H b = some u → upd H T o b = some u := fun b u e => by
    rw [upd_ne (fun z => by rw [z, nT] at e; cases e)]
    exact e
  refine I.step (g' := s.gens) (d' := s.drawn) (ch := fp) (fun b hb => ?_) (fun b ob _ _ hc e _ => k b ob hc e) (fun b ob _ _ hc e _ => ⟨ob.slots, k b ob hc e⟩) (fun b ob _ e n => by rw [upd_ne (neT b ob e)]; exact n)
    (fun b ob hc e => ⟨ob, k b ob hc e⟩) (fun b xs e => up b _ e) (fun b ob u e => up b _ e) (fun b ps e => ⟨#[], by rw [up b _ e]; simp⟩) (fun m hm => ?_) (fun b u e => ?_) I.bare
  · obtain ⟨f0, f1, f2, f3, f4, f5⟩ := hf b hb
    exact ⟨f3, f1, f4, f5⟩
  · obtain ⟨ob, es, ep, ho, r⟩ := hm
    exact ⟨ob, es, ep, k _ ob (fun z => (hf _ z).2.1 rfl) ho, r⟩
  · by_cases hb : b = T
    · subst hb
      rw [upd_same] at e
      cases e
      exact new
    · rw [upd_ne hb] at e
      refine (I.hok b u e).stay (fun c v hc q => k c v (fun z => ?_) q) (fun c q => up c _ q) fun c xs q => up c _ q
      rcases hc with z2 | z2
      · rw [z2] at z
        rw [(hf b z).1] at e
        cases e
      · rw [(hf c z).1] at z2
        cases z2
end
end L2
namespace My
open PySem L2

theorem mod_lo (x : Int) {n : Int} (h : 0 < n) : 0 ≤ x % n := Int.emod_nonneg x (by omega)
theorem mod_hi (x : Int) {n : Int} (h : 0 < n) : x % n < n := Int.emod_lt_of_pos x h
theorem two_fit : 2 ≤ sizeLine := by decide

theorem fit1000 {k : Nat} (h : k ≤ 1000) : k ≤ sizeLine := Nat.le_trans h (by decide)
theorem fit999 {k : Nat} (h : k ≤ 999) : k < sizeLine := Nat.lt_of_le_of_lt h (by decide)
end My
namespace My
open PySem L2
theorem new_all {H : Hp} {D : Addr} {o : HO} (h : H D = none) : Same H (upd H D o) ∧ upd H D o D = some o := ⟨Same.new h, upd_same⟩
end My
namespace STab
open PySem PySem.W PyProof.Rows

/-- all questions are about places below n; what comes out -/
def run (n : Nat) (lt : Nat → Nat → Bool) {α : Type} : KasT α → (α → Prop) → Prop
  | .ret a, Q => Q a
  | .ask i j k, Q => i < n ∧ j < n ∧ run n lt (k (lt i j)) Q
theorem run_bind {n : Nat} {lt : Nat → Nat → Bool} {α β : Type} {f : α → KasT β} {Q : β → Prop} : ∀ (t : KasT α), run n lt t (fun a => run n lt (f a) Q) → run n lt (t.bind f) Q
  | .ret _, h => h
  | .ask i j k, h => ⟨h.1, h.2.1, run_bind (k (lt i j)) h.2.2⟩
theorem run_mono {n : Nat} {lt : Nat → Nat → Bool} {α : Type} {Q Q' : α → Prop} (hq : ∀ a, Q a → Q' a) : ∀ (t : KasT α), run n lt t Q → run n lt t Q'
  | .ret a, h => hq a h
  | .ask i j k, h => ⟨h.1, h.2.1, run_mono hq (k (lt i j)) h.2.2⟩
/-- a strict order of the places below n -/
structure Ord (n : Nat) (lt : Nat → Nat → Bool) : Prop where
  irr : ∀ i, i < n → lt i i = false
  trn : ∀ i j k, i < n → j < n → k < n → lt i j = true → lt j k = true → lt i k = true
  tot : ∀ i j, i < n → j < n → i ≠ j → lt i j = false → lt j i = true
def g (p : Array Nat) (i : Nat) : Nat := p.getD i 0
/-- p tells each place below n once -/
def Pm (n : Nat) (p : Array Nat) : Prop := p.toList.Perm (List.range n)
theorem Pm.sz {n : Nat} {p : Array Nat} (h : Pm n p) : p.size = n := by
  have := h.length_eq
  rw [List.length_range, Array.length_toList] at this
  exact this
theorem g_get {p : Array Nat} {i : Nat} (h : i < p.size) : g p i = p[i] := by simp [g, Array.getD, h]
theorem Pm.lt {n : Nat} {p : Array Nat} (h : Pm n p) {i : Nat} (hi : i < n) : g p i < n := by
  rw [g_get (by rw [h.sz]; exact hi)]
  have : p[i]'(by rw [h.sz]; exact hi) ∈ p.toList := by rw [← Array.getElem_toList]; exact List.getElem_mem _
  exact List.mem_range.mp (h.mem_iff.mp this)
theorem Pm.inj {n : Nat} {p : Array Nat} (h : Pm n p) {i j : Nat} (hi : i < n) (hj : j < n) (e : g p i = g p j) : i = j := by
  have nd : p.toList.Nodup := h.nodup_iff.mpr List.nodup_range
  rw [g_get (by rw [h.sz]; exact hi), g_get (by rw [h.sz]; exact hj)] at e
  have a : i < p.toList.length := by rw [Array.length_toList, h.sz]; exact hi
  have b : j < p.toList.length := by rw [Array.length_toList, h.sz]; exact hj
  have e' : p.toList[i] = p.toList[j] := by simpa using e
  exact (List.getElem_inj nd).mp e'
def AscP (lt : Nat → Nat → Bool) (p : Array Nat) (m : Nat) : Prop := ∀ i j, i < j → j < m → lt (g p i) (g p j) = true
section
variable {n : Nat} {lt : Nat → Nat → Bool} (O : Ord n lt)
include O
theorem asc_more {p : Array Nat} (P : Pm n p) {m : Nat} (h1 : 1 ≤ m) (hm : m < n) (h : AscP lt p m) (e : lt (g p m) (g p (m - 1)) = false) : AscP lt p (m + 1) := by
  have top : lt (g p (m - 1)) (g p m) = true := O.tot _ _ (P.lt hm) (P.lt (by omega)) (fun z => by have := P.inj hm (show m - 1 < n by omega) z; omega) e
  intro i j hij hj
  by_cases z : j = m
  · subst z
    by_cases z2 : i = j - 1
    · subst z2; exact top
    · exact O.trn _ (g p (j - 1)) _ (P.lt (by omega)) (P.lt (by omega)) (P.lt hm) (h i (j - 1) (by omega) (by omega)) top
  · exact h i j hij (by omega)
theorem asc_run {p : Array Nat} (P : Pm n p) : ∀ (f k : Nat), 1 ≤ k → k + f ≤ n → AscP lt p k → run n lt (kas_asc p f k) fun m => k ≤ m ∧ m ≤ k + f ∧ AscP lt p m ∧ (m = k + f ∨ lt (g p m) (g p (m - 1)) = true)
  | 0, k, h1, h2, h => ⟨Nat.le_refl _, Nat.le_refl _, h, .inl rfl⟩
  | f + 1, k, h1, h2, h => by
    refine ⟨P.lt (by omega), P.lt (by omega), ?_⟩
    show run n lt (if lt (g p k) (g p (k - 1)) = true then .ret k else kas_asc p f (k + 1)) _
    cases e : lt (g p k) (g p (k - 1)) with
    | true => exact ⟨Nat.le_refl _, by omega, h, .inr e⟩
    | false =>
      rw [if_neg Bool.false_ne_true]
      refine run_mono (fun m hm => ?_) _ (asc_run P f (k + 1) (by omega) (by omega) (asc_more O P h1 (by omega) h e))
      exact ⟨by omega, by omega, hm.2.2.1, hm.2.2.2.imp (fun z => by omega) fun z => z⟩
end
end STab
namespace STab
open PySem PySem.W PyProof.Rows

section
variable {prog : Program} {w : World} {A : Around} {E : Value → Shared → Prop} {s : Shared}
theorem run_wp {n : Nat} {lt : Nat → Nat → Bool} {κ : SortKind} {vs : List Value} (hc : ∀ i j, i < n → j < n → ∀ C : Bool → Shared → Prop, C (lt i j) s → kas_ask prog w A κ vs i j C s) {α : Type} {Q : α → Prop} : ∀ (t : KasT α), run n lt t Q → t.kasWp (kas_ask prog w A κ vs) (fun a s' => s' = s ∧ Q a) s
  | .ret a, h => ⟨rfl, h⟩
  | .ask i j k, h => hc i j h.1 h.2.1 _ (run_wp hc (k (lt i j)) h.2.2)
end
end STab
namespace L2
open PySem PySem.Spec PyProof.Rows
/-- a way to read values: what is read is one thing, and two values are equal just where they are read alike -/
structure EqOk (K : PySem.W.Frag) (d : Nat) {α : Type} [DecidableEq α] (R : Hp → V → α → Prop) : Prop where
  fn : ∀ {H x a b}, R H x a → R H x b → a = b
  eq : ∀ {X : Cx} {A : Around} {pins : List (Addr × Obj)} {σ : List (Option V)} {H : Hp} {s : Shared} {x y : V} {v u : Value} {a b : α}, X.K = K → Inv X pins σ H s → RelV x v → RelV y u → R H x a → R H y b → A.units + d < cLine → SeqAt.EqAt A s v u (decide (a = b))
def StrR (_ : Hp) (x : V) (t : Str) : Prop := x = .str t
theorem eqok_str {K : PySem.W.Frag} : EqOk K 0 StrR where
  fn := by
    rintro H x a b h k
    cases h
    cases k
    rfl
  eq := by
    rintro X A pins σ H s x y v u a b hK I r r' h k hu
    cases h
    cases k
    have e : decide (a = b) = eqV (V.str a) (V.str b) := by
      rw [eqV_plain rfl rfl, Bool.eq_iff_iff]
      simp
    rw [e]
    exact eqAt_V r r' rfl rfl
theorem prd_fn {α : Type} {R : V → α → Prop} (f : ∀ x a b, R x a → R x b → a = b) : ∀ {xs : List V} {as bs : List α}, Paired R xs as → Paired R xs bs → as = bs
  | [], _, _, .nil, .nil => rfl
  | _ :: _, _, _, .cons r t, .cons r' t' => by rw [f _ _ _ r r', prd_fn f t t']
theorem prd_at {α : Type} {R : V → α → Prop} : ∀ {xs : List V} {as : List α} {i : Nat} {x : V}, Paired R xs as → xs[i]? = some x → ∃ a, as[i]? = some a ∧ R x a
  | [], _, _, _, .nil, e => by simp at e
  | _ :: _, _, 0, _, .cons r _, e => by simp at e; subst e; exact ⟨_, rfl, r⟩
  | _ :: _, _, i + 1, x, .cons _ t, e => by
    simp at e
    obtain ⟨a, h, r⟩ := prd_at t e
    exact ⟨a, by simpa using h, r⟩
/-- equal at every place and as long -/
theorem all_get {α : Type} [DecidableEq α] (as bs : List α) : ((List.range (min as.length bs.length)).all (fun j => decide (as[j]? = bs[j]?)) && as.length == bs.length) = decide (as = bs) := by
  rw [Bool.eq_iff_iff, Bool.and_eq_true, List.all_eq_true, beq_iff_eq, decide_eq_true_eq]
  constructor
  · rintro ⟨h, e⟩
    refine List.ext_getElem? fun j => ?_
    by_cases hj : j < as.length
    · exact of_decide_eq_true (h j (List.mem_range.mpr (by omega)))
    · rw [List.getElem?_eq_none (by omega), List.getElem?_eq_none (by omega)]
  · rintro rfl
    exact ⟨fun j _ => decide_eq_true rfl, rfl⟩
theorem all_get_same {α : Type} [DecidableEq α] {as bs : List α} (h : as.length = bs.length) : (List.range as.length).all (fun j => decide (as[j]? = bs[j]?)) = decide (as = bs) := by
  have := all_get as bs
  rw [← h, Nat.min_self, beq_self_eq_true, Bool.and_true] at this
  exact this
section
variable {K : PySem.W.Frag} {d : Nat} {α : Type} [DecidableEq α] {R : Hp → V → α → Prop}
theorem eqok_items (ok : EqOk K d R) {X : Cx} {A : Around} {pins : List (Addr × Obj)} {σ : List (Option V)} {H : Hp} {s : Shared} (hK : X.K = K) (I : Inv X pins σ H s) {xs ys : List V} {as bs : List α} {its its2 : List Value}
    (r : Vals xs its) (r2 : Vals ys its2) (pa : Paired (R H) xs as) (pb : Paired (R H) ys bs) (hu : A.units + d < cLine) :
    ∀ j (h1 : j < its.toArray.size) (h2 : j < its2.toArray.size), SeqAt.EqAt A s its.toArray[j] its2.toArray[j] (decide (as[j]? = bs[j]?)) := by
  intro j h1 h2
  have e1 := r.length
  have e2 := r2.length
  rw [List.size_toArray] at h1 h2
  have g1 : xs[j]? = some xs[j] := by simp
  have g2 : ys[j]? = some ys[j] := by simp
  obtain ⟨u, hu1, ru⟩ := r.get g1
  obtain ⟨v, hv1, rv⟩ := r2.get g2
  obtain ⟨a, ha, ra⟩ := prd_at pa g1
  obtain ⟨b, hb, rb⟩ := prd_at pb g2
  have z1 : its.toArray[j]'(by rw [List.size_toArray]; exact h1) = u := by
    obtain ⟨_, q⟩ := List.getElem?_eq_some_iff.mp hu1
    simpa using q
  have z2 : its2.toArray[j]'(by rw [List.size_toArray]; exact h2) = v := by
    obtain ⟨_, q⟩ := List.getElem?_eq_some_iff.mp hv1
    simpa using q
  rw [z1, z2, ha, hb]
  have e : decide (some a = some b) = decide (a = b) := by rw [Bool.eq_iff_iff]; simp
  rw [e]
  exact ok.eq hK I ru rv ra rb hu
/-- a tuple whose items are read by R -/
def TupOf (R : Hp → V → α → Prop) (H : Hp) (x : V) (as : List α) : Prop := ∃ p xs, x = .ref p ∧ H p = some (.tup xs) ∧ Paired (R H) xs as
theorem sizes {xs ys : List V} {as bs : List α} {its its2 : List Value} {P P' : V → α → Prop} (r : Vals xs its) (r2 : Vals ys its2) (pa : Paired P xs as) (pb : Paired P' ys bs) : its.toArray.size = as.length ∧ its2.toArray.size = bs.length := by
  rw [List.size_toArray, List.size_toArray, ← r.length, ← r2.length]
  exact ⟨prd_len pa, prd_len pb⟩
theorem eqok_tup (ok : EqOk K d R) : EqOk K (d + 1) (TupOf R) where
  fn := by
    rintro H x as bs ⟨p, xs, rfl, hp, pa⟩ ⟨p', xs', e, hp', pb⟩
    cases e
    rw [hp] at hp'
    cases hp'
    exact prd_fn (R := R H) (fun _ _ _ h k => ok.fn h k) pa pb
  eq := by
    rintro X A pins σ H s x y v u as bs hK I r r' ⟨p, xs, rfl, hp, pa⟩ ⟨p', ys, rfl, hp', pb⟩ hu
    cases r
    cases r'
    by_cases e : p = p'
    · subst e
      rw [hp] at hp'
      cases hp'
      rw [decide_eq_true (prd_fn (R := R H) (fun _ _ _ h k => ok.fn h k) pa pb)]
      exact SeqAt.EqAt.same _
    · obtain ⟨its, r1, p1, _⟩ := I.tuple (SqT.of hp)
      obtain ⟨its2, r2, p2, _⟩ := I.tuple (SqT.of hp')
      obtain ⟨z1, z2⟩ := sizes r1 r2 pa pb
      refine SeqAt.EqAt.of_refs e ?_
      have := SeqAt.RcAt.tuples (A := A) p1 p2 (by omega) (eqok_items (A := A.in1) ok hK I r1 r2 pa pb (by show A.units + 1 + d < cLine; omega))
      rw [z1, z2, all_get] at this
      exact this
variable {X : Cx}
def rEqLd (K : PySem.W.Frag) (R : Hp → V → α → Prop) (g : Bool → Bool) : R2 := fun x y H Q => ∃ a b xs ys as bs, x = .ref a ∧ y = .ref b ∧ SqL K H a xs ∧ SqL K H b ys ∧ Paired (R H) xs as ∧ Paired (R H) ys bs ∧ Q (.bl (g (decide (as = bs)))) H
theorem op_neLd (ok : EqOk X.K d R) (hd : d ≤ 60) (hu : X.A.units + 64 < cLine) : OpR X (compareOp .NotEq) (rEqLd X.K R fun b => !b) := by
  intro pins s σ H x y v u Q I rx ry h
  obtain ⟨a, b, xs, ys, as, bs, rfl, rfl, ha, hb, pa, pb, q⟩ := h
  cases rx; cases ry
  obtain ⟨its, r, p, hz⟩ := I.list ha
  obtain ⟨its2, r2, p2, hz2⟩ := I.list hb
  obtain ⟨z1, z2⟩ := sizes r r2 pa pb
  by_cases hs : its.toArray.size = its2.toArray.size
  · refine SeqAt.RcNeAt.lists p.isList p2.isList hs (by omega) (eqok_items (A := X.A.in1) ok rfl I r r2 pa pb (by show X.A.units + 1 + d < cLine; omega)) _ _ _ _ ⟨.bl _, H, I, rfl, ?_⟩
    rw [z1, all_get_same (by omega)]
    exact q
  · refine SeqAt.RcNeAt.lists_lengths p.isList p2.isList (by simpa using hs) (by omega) _ _ _ _ ⟨.bl _, H, I, rfl, ?_⟩
    rw [decide_eq_false (fun e => hs (by rw [z1, z2, e]))] at q
    exact q
end
end L2
namespace L2
open PySem PySem.Spec PyProof.Rows
/-- the signs of a text -/
def Its (x : Str) : It := ⟨fun i _ => i < x.cps.size, fun i H v H' => H' = H ∧ ∃ c, x.cps[i]? = some c ∧ v = .str ⟨#[c]⟩, fun i _ => x.cps.size ≤ i⟩
theorem turn_str {P : Program} {w : World} {K : PySem.W.Frag} {tg : Expr} (it : Addr) (x : Str) (t : Tok) : Turn P w K tg (Its x) [it] it (fun i h => h.IsStrIter it "str_ascii_iterator" x t i) where
  mem := by simp
  obj := fun i h st b hb => by
    have e : b = it := by simpa using hb
    subst e
    obtain ⟨o, e, c, d⟩ := st
    exact ⟨o, e, fun v z => by rw [d] at z; cases z⟩
  keep := fun i h h' st k => let ⟨o, ho, r⟩ := st; ⟨o, k it (by simp) o ho, r⟩
  item := by
    intro X hP hw hK hc i pins s σ H E I hf st hg
    subst hP hw hK
    obtain ⟨f0, f1, f2, f3, f4, f5⟩ := hf it (by simp)
    have hg : i < x.cps.size := hg
    have hi : x.cps[i]? = some x.cps[i] := by simp
    refine wpAny_pyNext_ascii_item st hi fun h' st' sb => ?_
    have I1 : Inv X pins σ H { s with heap := h', toks := s.toks + 1 } := I.turned (t' := s.toks + 1) (fun b o hb e => (sb.2 b hb).trans e) f0 f1 f3 f4 f5
    obtain ⟨o, e, c, d⟩ := id st'
    exact ⟨_, rfl, go_of (s := { s with heap := h', toks := s.toks + 1 }) e c d (by decide) ⟨.str ⟨#[x.cps[i]]⟩, H, I1, ⟨_, rfl⟩, ⟨rfl, _, hi, rfl⟩, st', fun b hb => (hf b hb).1⟩⟩
  done := by
    intro X hP hw hK hc i pins s σ H E I hf st hg
    subst hP hw hK
    obtain ⟨f0, f1, f2, f3, f4, f5⟩ := hf it (by simp)
    have hg : x.cps.size ≤ i := hg
    exact wpAny_pyNext_ascii_end (I.ok.hd hc) st (by simp; omega) fun h' eb => ⟨rfl, I.turned (t' := s.toks) (fun b o hb e => eb b o hb e) f0 f1 f3 f4 f5⟩
  self := fun _ _ _ _ _ st h => wpAny_pyIter_striter_ascii st h
section
variable {X : Cx} {tg : Expr}
def iStr (tl : TE) : TI := fun σ H R => tl σ H fun v H1 => ∃ x, v = .str x ∧ x.cps.all (· < 128) = true ∧ R (Its x) H1
theorem pi_str {l : Expr} {tl : TE} (hl : PE X l tl) : PI X tg l (iStr tl) := by
  intro pins s σ H R I h
  refine thn (hl pins s σ H _ I h) fun v s1 ⟨y, H1, I1, r1, q1⟩ => ?_
  obtain ⟨x, e, ha, q⟩ := q1
  subst e
  obtain ⟨t, rfl⟩ := r1
  refine wpAny_pyIter_ascii ha ?_
  refine ⟨s1.heap.objs.size, [s1.heap.objs.size], _, _, H1, rfl, I1.kept (t' := s1.toks) fun b o e => Heap.get?_push_of_some _ e, turn_str _ x t, ⟨_, Heap.get?_push_size _ rfl, rfl, rfl⟩, fun b hb => ?_, q⟩
  have e : b = s1.heap.objs.size := by simpa using hb
  subst e
  exact I1.fpOk (Nat.le_refl _) (I1.hok.fresh (Nat.le_refl _))
theorem for_str {x : Str} {g : TG} {tb : TS} {D : Ends} {σ : St} {H : Hp} (Pv : Nat → St → Hp → Prop) (h0 : Pv 0 σ H)
    (hs : ∀ i c σ H, x.cps[i]? = some c → Pv i σ H → g (.str ⟨#[c]⟩) σ H fun σ2 H2 => tb { D with nx := Pv (i + 1), ct := Pv (i + 1), bk := D.nx } σ2 H2) (hd : ∀ σ H, Pv x.cps.size σ H → D.nx σ H) :
    ∃ W : Nat → Nat → St → Hp → Prop, (∃ m, W 0 m σ H) ∧ ∀ i m σ H, W i m σ H →
      ((Its x).stop i H ∧ D.nx σ H) ∨ ((Its x).go i H ∧ ∃ N : St → Hp → Prop, (∀ σ' H', N σ' H' → ∃ m', m' < m ∧ W (i + 1) m' σ' H') ∧ ∀ v H', (Its x).yld i H v H' → g v σ H' fun σ2 H2 => tb { D with nx := N, ct := N, bk := D.nx } σ2 H2) := by
  refine ⟨fun i m σ H => m = x.cps.size - i ∧ i ≤ x.cps.size ∧ Pv i σ H, ⟨x.cps.size, by simp, Nat.zero_le _, h0⟩, ?_⟩
  rintro i m σ H ⟨rfl, hi, p⟩
  by_cases hlt : i < x.cps.size
  · refine .inr ⟨hlt, Pv (i + 1), fun σ' H' p' => ⟨x.cps.size - (i + 1), by omega, rfl, hlt, p'⟩, fun v H' y => ?_⟩
    obtain ⟨e, c, hc, y⟩ := y
    subst e y
    exact hs i c σ _ hc p
  · have e : i = x.cps.size := by omega
    subst e
    exact .inl ⟨Nat.le_refl _, hd σ H p⟩
end
end L2
namespace L2
open PySem PySem.Spec PyProof.Rows
abbrev KX := List (List Key × Addr × V)
def dxOk (w : World) (a : Addr) (kvs : KX) (h : Heap) : Prop :=
  kvs.length ≤ sizeLine ∧ (a == sysModules) = false ∧ ∃ xs : List (List Key × Addr × Value), Paired (fun p q => p.1 = q.1 ∧ p.2.1 = q.2.1 ∧ RelV p.2.2 q.2.2) kvs xs ∧
    ∃ o es ep, h.get? a = some o ∧ o.ExactDict ∧ o.data = .dict es ep ∧ (∀ P : Program, es.toList = xs.map (entryOfKey (tupleKind (mixKind P w)))) ∧ (xs.map (·.1)).Nodup
def dX (w : World) (a : Addr) (kvs : KX) : HO := .ext (dxOk w a kvs)
def KeysOk (K : PySem.W.Frag) (H : Hp) (kvs : KX) : Prop := ∀ q ∈ kvs, SqT K H q.2.1 (q.1.map kV)
def atX (kvs : KX) (k : List Key) : Option V := (kvs.find? fun q => decide (q.1 = k)).map (·.2.2)
def putX (kvs : KX) (k : List Key) (b : Addr) (v : V) : KX := if (atX kvs k).isSome then kvs.map (fun q => if q.1 = k then (q.1, q.2.1, v) else q) else kvs ++ [(k, b, v)]
theorem putX_new {kvs : KX} {k : List Key} (h : atX kvs k = none) (b : Addr) (v : V) : putX kvs k b v = kvs ++ [(k, b, v)] := by unfold putX; rw [h]; rfl
theorem key_is {P : Program} {w : World} {k : Key} {u : Value} (r : RelV (kV k) u) : (mixKind P w).is k u = true := by
  cases k with
  | inl i => obtain ⟨t, e⟩ := (show ∃ t, u = Value.int i t from r); subst e; exact mixKind_int P w i t
  | inr x => obtain ⟨t, e⟩ := (show ∃ t, u = Value.str x t from r); subst e; exact mixKind_str P w x t
theorem keys_are {P : Program} {w : World} : ∀ {ks : List Key} {us : List Value}, Vals (ks.map kV) us → ItemsAre (mixKind P w) ks us
  | [], _, r => by rw [List.map_nil] at r; cases r; exact .nil
  | k :: ks, _, r => by
    rw [List.map_cons] at r
    cases r with
    | cons h t => exact .cons (key_is h) (keys_are t)
theorem dx_obj {P : Program} {w : World} {H : Hp} {h : Heap} {a : Addr} {kvs : KX} (q : dxOk w a kvs h) : ObjOk P w H h a (dX w a kvs) := by
  refine ⟨q, ?_, fun h1 h2 ⟨z, y, xs, r, o, es, ep, e, rest⟩ k => ⟨z, y, xs, r, o, es, ep, k o e, rest⟩⟩
  obtain ⟨_, _, _, _, o, _, _, e, _⟩ := q
  exact ⟨o, e⟩
theorem dx_val : ∀ {kvs : KX} {xs : List (List Key × Addr × Value)}, Paired (fun (p : List Key × Addr × V) (q : List Key × Addr × Value) => p.1 = q.1 ∧ p.2.1 = q.2.1 ∧ RelV p.2.2 q.2.2) kvs xs → ∀ k, match atX kvs k with | none => atKey xs k = none | some v => ∃ b u, atKey xs k = some (b, u) ∧ RelV v u
  | _, _, .nil, _ => rfl
  | _, _, .cons (a := p) (b := q) r t, k => by
    obtain ⟨h1, h2, h3⟩ := r
    have ih := dx_val t k
    by_cases e : p.1 = k
    · have e1 : ∀ kvs : KX, atX (p :: kvs) k = some p.2.2 := fun kvs => by unfold atX; rw [List.find?_cons_of_pos (by simpa using e)]; rfl
      rw [e1]
      refine ⟨q.2.1, q.2.2, ?_, h3⟩
      unfold atKey
      rw [List.find?_cons_of_pos (by simpa [← h1] using e)]
      rfl
    · have e1 : ∀ kvs : KX, atX (p :: kvs) k = atX kvs k := fun kvs => by unfold atX; rw [List.find?_cons_of_neg (by simpa using e)]
      have e2 : ∀ xs : List (List Key × Addr × Value), atKey (q :: xs) k = atKey xs k := fun xs => by unfold atKey; rw [List.find?_cons_of_neg (by simpa [← h1] using e)]
      rw [e1, e2]
      exact ih
theorem dx_put : ∀ {kvs : KX} {xs : List (List Key × Addr × Value)}, Paired (fun (p : List Key × Addr × V) (q : List Key × Addr × Value) => p.1 = q.1 ∧ p.2.1 = q.2.1 ∧ RelV p.2.2 q.2.2) kvs xs → ∀ (k : List Key) {v : V} {u : Value}, RelV v u →
    Paired (fun (p : List Key × Addr × V) (q : List Key × Addr × Value) => p.1 = q.1 ∧ p.2.1 = q.2.1 ∧ RelV p.2.2 q.2.2) (kvs.map fun q => if q.1 = k then (q.1, q.2.1, v) else q) (xs.map (putAt k u))
  | _, _, .nil, _, _, _, _ => .nil
  | _, _, .cons (a := p) (b := q) r t, k, v, u, ru => by
    rw [List.map_cons, List.map_cons]
    refine .cons ?_ (dx_put t k ru)
    obtain ⟨h1, h2, h3⟩ := r
    unfold putAt
    by_cases e : p.1 = k
    · rw [if_pos e, if_pos (h1 ▸ e)]; exact ⟨h1, h2, ru⟩
    · rw [if_neg e, if_neg (h1 ▸ e)]; exact ⟨h1, h2, h3⟩
theorem dx_stored {kvs : KX} {xs : List (List Key × Addr × Value)} (r : Paired (fun (p : List Key × Addr × V) (q : List Key × Addr × Value) => p.1 = q.1 ∧ p.2.1 = q.2.1 ∧ RelV p.2.2 q.2.2) kvs xs) (k : List Key) (b : Addr) {v : V} {u : Value} (ru : RelV v u) :
    Paired (fun (p : List Key × Addr × V) (q : List Key × Addr × Value) => p.1 = q.1 ∧ p.2.1 = q.2.1 ∧ RelV p.2.2 q.2.2) (putX kvs k b v) (storedH xs k b u) := by
  have q := dx_val r k
  unfold putX storedH
  cases e : atX kvs k with
  | none =>
    rw [e] at q
    have q : atKey xs k = none := q
    rw [q]
    exact prd_append r (.cons ⟨rfl, rfl, ru⟩ .nil)
  | some v' =>
    rw [e] at q
    obtain ⟨b', u', q, _⟩ := q
    rw [q]
    exact dx_put r k ru
theorem putX_len (kvs : KX) (k : List Key) (b : Addr) (v : V) : (putX kvs k b v).length ≤ kvs.length + 1 := by
  unfold putX
  split
  · rw [List.length_map]; omega
  · rw [List.length_append]; exact Nat.le_refl _
theorem SqT.tk {K : PySem.W.Frag} {H H' : Hp} {a : Addr} {xs : List V} (h : SqT K H a xs) (t : ∀ u, (∃ ys, u = HO.tup ys ∨ ∃ o ys, u = HO.frz o (.tup ys)) → H a = some u → H' a = some u) : SqT K H' a xs := by
  rcases h with (h | ⟨o, h⟩) | h
  · exact .inl (.inl (t _ ⟨xs, .inl rfl⟩ h))
  · exact .inl (.inr ⟨o, t _ ⟨xs, .inr ⟨o, xs, rfl⟩⟩ h⟩)
  · exact .inr h
theorem KeysOk.upd {K : PySem.W.Frag} {H : Hp} {d : Addr} {φ : Heap → Prop} {o : HO} {kvs : KX} (h : KeysOk K H kvs) (hd : H d = some (.ext φ)) : KeysOk K (upd H d o) kvs := fun q hq => (h q hq).tk fun u hu e => by
  have ne : q.2.1 ≠ d := by
    rintro z
    rw [z, hd] at e
    cases e
    obtain ⟨ys, hu | ⟨o, ys, hu⟩⟩ := hu <;> cases hu
  rw [upd_ne ne]
  exact e
section
variable {X : Cx} {pins : List (Addr × Obj)} {σ : St} {H : Hp} {s : Shared} {a b : Addr} {kvs : KX} {k : List Key} {A : Around} {E : Value → Shared → Prop}
theorem Inv.keyAt (I : Inv X pins σ H s) (h : SqT X.K H b (k.map kV)) : (tupleKind (mixKind X.prog X.w)).is s.heap k b := by
  obtain ⟨its, r, ⟨o, h1, h2, n, h3⟩, _⟩ := I.tuple h
  exact ⟨o, its.toArray, n, h1, h2, h3, by simpa using keys_are r⟩
theorem Inv.dx (I : Inv X pins σ H s) (e : H a = some (dX X.w a kvs)) (ok : KeysOk X.K H kvs) : kvs.length ≤ sizeLine ∧ (a == sysModules) = false ∧ ∃ xs, Paired (fun (p : List Key × Addr × V) (q : List Key × Addr × Value) => p.1 = q.1 ∧ p.2.1 = q.2.1 ∧ RelV p.2.2 q.2.2) kvs xs ∧ s.heap.DictOfH (tupleKind (mixKind X.prog X.w)) a xs := by
  obtain ⟨⟨z, y, xs, r, o, es, ep, h1, h2, h3, h4, h5⟩, _⟩ := (show ObjOk X.prog X.w H s.heap a (dX X.w a kvs) from I.hok a _ e)
  refine ⟨z, y, xs, r, o, es, ep, h1, h2, h3, h4 _, ?_, h5⟩
  have all : ∀ {l : KX} {m : List (List Key × Addr × Value)}, Paired (fun (p : List Key × Addr × V) (q : List Key × Addr × Value) => p.1 = q.1 ∧ p.2.1 = q.2.1 ∧ RelV p.2.2 q.2.2) l m → (∀ q ∈ l, SqT X.K H q.2.1 (q.1.map kV)) → ∀ x ∈ m, (tupleKind (mixKind X.prog X.w)).is s.heap x.1 x.2.1 := by
    intro l m q
    induction q with
    | nil => intro _ x hx; exact nomatch hx
    | @cons p q ps qs hq t ih =>
      intro f x hx
      rcases List.mem_cons.mp hx with e | hx
      · subst e
        have := I.keyAt (f p (List.mem_cons_self ..))
        rw [hq.1, hq.2.1] at this
        exact this
      · exact ih (fun q hq => f q (List.mem_cons_of_mem _ hq)) x hx
  exact all r ok
theorem dx_write {h' : Heap} {t' : Nat} {kvs' : KX} {xs' : List (List Key × Addr × Value)} (I : Inv X pins σ H s) (e : H a = some (dX X.w a kvs)) (y : (a == sysModules) = false) (z : kvs'.length ≤ sizeLine)
    (r : Paired (fun (p : List Key × Addr × V) (q : List Key × Addr × Value) => p.1 = q.1 ∧ p.2.1 = q.2.1 ∧ RelV p.2.2 q.2.2) kvs' xs') (dd : h'.DictOfH (tupleKind (mixKind X.prog X.w)) a xs') (hs : Heap.SameBut a s.heap h') : Inv X pins σ (upd H a (dX X.w a kvs')) { s with heap := h', toks := t' } := by
  obtain ⟨o, es, ep, h1, h2, h3, h4, _, h5⟩ := dd
  exact I.write (x := a) (e := a) (by rw [e]; exact True.intro) (.inl rfl) (fun b q hb z => (hs.2 b hb).trans z) ⟨o, h1⟩ (dx_obj ⟨z, y, xs', r, o, es, ep, h1, h2, h3, fun _ => h4, h5⟩)
end
/-- d[y] -/
def tXGet (w : World) (K : PySem.W.Frag) (td ty : TE) : TE := fun σ H Q => td σ H fun x H1 => ty σ H1 fun y H2 => ∃ a b k kvs v, x = .ref a ∧ y = .ref b ∧ H2 a = some (dX w a kvs) ∧ KeysOk K H2 kvs ∧ SqT K H2 b (k.map kV) ∧ atX kvs k = some v ∧ Q v H2
/-- y in d, y not in d -/
def tXIn (w : World) (K : PySem.W.Frag) (neg : Bool) (ty td : TE) : TE := fun σ H Q => ty σ H fun y H1 => td σ H1 fun x H2 => ∃ a b k kvs, x = .ref a ∧ y = .ref b ∧ H2 a = some (dX w a kvs) ∧ KeysOk K H2 kvs ∧ SqT K H2 b (k.map kV) ∧ Q (.bl (if neg then !(atX kvs k).isSome else (atX kvs k).isSome)) H2
/-- d[y] = v -/
def sXPut (w : World) (K : PySem.W.Frag) (td ty tv : TE) : TS := fun D σ H => tv σ H fun v H1 => td σ H1 fun x H2 => ty σ H2 fun y H3 => ∃ a b k kvs, x = .ref a ∧ y = .ref b ∧ H3 a = some (dX w a kvs) ∧ KeysOk K H3 kvs ∧ SqT K H3 b (k.map kV) ∧ kvs.length < sizeLine ∧ D.nx σ (upd H3 a (dX w a (putX kvs k b v)))
/-- {y: v} -/
def tXOne (w : World) (K : PySem.W.Frag) (ty tv : TE) : TE := fun σ H Q => ∀ p, H p = none → ty σ (upd H p (dX w p [])) fun y H1 => tv σ H1 fun v H2 => ∃ b k, y = .ref b ∧ H2 p = some (dX w p []) ∧ SqT K H2 b (k.map kV) ∧ Q (.ref p) (upd H2 p (dX w p [(k, b, v)]))
section
variable {X : Cx} {o i e value : Expr} {pos pos' : Pos} {td ty tv : TE}
theorem dxGet_type {pins : List (Addr × Obj)} {σ : St} {H : Hp} {s : Shared} {a : Addr} {kvs : KX} (I : Inv X pins σ H s) (e : H a = some (dX X.w a kvs)) (ok : KeysOk X.K H kvs) : s.TypeIs (.ref a) "dict" := by
  obtain ⟨_, _, xs, _, dd⟩ := I.dx e ok
  exact dd.typeIs
theorem rm1 {X : Cx} (hu : X.A.units + 1 < cLine) : (tupleKind (mixKind X.prog X.w)).room X.A.in1 := tupleKind_room_in1 hu
theorem pe_xget (hu : X.A.units + 1 < cLine) (ho : PE X o td) (hi : PE X i ty) (hs : ∀ ov iv, subscripted i false ov iv = operate [ov, iv] (getItem ov iv)) : PE X (.Subscript o i pos) (tXGet X.w X.K td ty) := by
  intro pins s σ H Q I h
  refine Subscript_ (thn (ho pins s σ H _ I h) fun u s1 ⟨x, H1, I1, rx, q1⟩ => thn (hi pins s1 σ H1 _ I1 q1) fun iv s2 ⟨y, H2, I2, ry, a, b, k, kvs, v, ex, ey, e, ok, hk, ev, q2⟩ => ?_)
  subst ex; subst ey
  obtain rfl : u = Value.ref a := rx
  obtain rfl : iv = Value.ref b := ry
  have hT := dxGet_type I2 e ok
  obtain ⟨z, hd, xs, r, dd⟩ := I2.dx e ok
  have val := dx_val r k
  rw [ev] at val
  obtain ⟨b', w', ea, rv⟩ := val
  have fin : wpAny (model X.prog X.w) X.A (subscripted i false (.ref a) (.ref b)) (fun r s₃ => wpAny (model X.prog X.w) X.A (letTemporaryGo o (.ref a) r >>= fun _ => pure r) (EP X pins σ Q) X.xe s₃) X.xe s2 := by
    rw [hs]
    refine wpAny_operating (wpAny_getItem_heap (rm1 hu) (I2.keyAt hk) dd ea ?_)
    exact wpAny_bind (wpAny_letTemporaryGo (wpAny_pure ⟨v, H2, I2.tok _, rv, q2⟩))
  unfold subscriptTail
  refine wpAny_bind ?_
  rw [getitemInPython_of_ne hT.not_modules]
  refine wpAny_bind (wpAny_specialOf hT PySem.F.slot_dict_getitem.lookup ?_)
  first
    | exact wpAny_pure (wpAny_bind fin)
    | exact wpAny_bind (wpAny_pure (wpAny_bind fin))
    | exact wpAny_bind fin
theorem pc_xnotin (hu : X.A.units + 1 < cLine) (hi : PE X i ty) (ho : PE X o td) : PC X .NotIn i o (tXIn X.w X.K true ty td) := by
  intro pins s σ H Q I h
  refine thn (hi pins s σ H _ I h) fun iv s1 ⟨y, H1, I1, ry, q1⟩ => thn (ho pins s1 σ H1 _ I1 q1) fun u s2 ⟨x, H2, I2, rx, a, b, k, kvs, ex, ey, e, ok, hk, q2⟩ => ?_
  subst ex; subst ey
  obtain rfl : u = Value.ref a := rx
  obtain rfl : iv = Value.ref b := ry
  obtain ⟨z, hd, xs, r, dd⟩ := I2.dx e ok
  refine wpAny_notIn_heap (rm1 hu) (I2.keyAt hk) hd dd ⟨_, H2, I2.tok _, ?_, q2⟩
  have val := dx_val r k
  cases ev : atX kvs k with
  | none => rw [ev] at val; rw [show atKey xs k = none from val]; rfl
  | some v => rw [ev] at val; obtain ⟨b', w', ea, _⟩ := val; rw [ea]; rfl
theorem ps_xput (hu : X.A.units + 1 < cLine) (ho : PE X o td) (hi : PE X i ty) (hv : PE X value tv) (hs : swapsWith value (some (.Subscript o i pos')) pos.line X.env = pure false) :
    PS X (.Assign [.Subscript o i pos'] value pos) (sXPut X.w X.K td ty tv) := by
  intro pins s σ H D I h
  refine wpAny_Assign_Subscript (thn (hv pins s σ H _ I h) fun r s1 ⟨v, H1, I1, rv, q1⟩ => thn (ho pins s1 σ H1 _ I1 q1) fun u s2 ⟨x, H2, I2, rx, q2⟩ => thn (hi pins s2 σ H2 _ I2 q2) fun iv s3 ⟨y, H3, I3, ry, a, b, k, kvs, ex, ey, e, ok, hk, hz, q3⟩ => ?_) hs
  subst ex; subst ey
  obtain rfl : u = Value.ref a := rx
  obtain rfl : iv = Value.ref b := ry
  obtain ⟨z, hd, xs, rr, dd⟩ := I3.dx e ok
  have lx := prd_len rr
  refine wpAny_setItem_heap (hsz := by omega) (rm1 hu) (I3.keyAt hk) dd fun h' dd' hs' => ⟨σ, _, ?_, q3⟩
  exact dx_write I3 e hd (by have := putX_len kvs k b v; omega) (dx_stored rr k b rv) dd' hs'
theorem pe_xone (hu : X.A.units < cLine) (hi : PE X i ty) (hv : PE X value tv) : PE X (.Dict [some i] [value] pos) (tXOne X.w X.K ty tv) := by
  intro pins s σ H Q I h
  have hn := I.hok.fresh (Nat.le_refl s.heap.objs.size)
  have big : sysModules < s.heap.objs.size := Nat.lt_trans (by decide) (show mainGlobals < s.heap.objs.size from (I.mod.glob.keeps I.bk).lt)
  have I1 := I.laid (a := s.heap.objs.size) (o := dX X.w s.heap.objs.size []) (h' := s.heap.push { cls := .type "dict", data := .dict #[] }) (t' := s.toks) (fun _ _ q => Heap.get?_push_of_some _ q) (Nat.le_refl _)
    (dx_obj ⟨Nat.zero_le _, beq_eq_false_iff_ne.mpr (Ne.symm (Nat.ne_of_lt big)), [], .nil, _, #[], 0, Heap.get?_push_size _ rfl, ⟨rfl, rfl, rfl⟩, rfl, fun _ => rfl, List.nodup_nil⟩)
  refine wpAny_Dict_any rfl rfl (by simp) (show 1 ≤ 15 by decide) (pairTrees_cons_walk (thn (hi pins _ σ _ _ I1 (h _ hn)) fun iv s2 ⟨y, H1, I2, ry, q1⟩ => thn (hv pins s2 σ H1 _ I2 q1) fun r s3 ⟨v, H2, I3, rv, b, k, ey, e, hk, q2⟩ => pairTrees_nil_walk ?_))
  subst ey
  obtain rfl : iv = Value.ref b := ry
  obtain ⟨z, hd, xs, rr, dd⟩ := I3.dx e (fun q hq => nomatch hq)
  cases rr
  unfold storeAll
  rw [List.forIn_cons]
  refine wpAny_bind (wpAny_bind (wpAny_dictSet_heap (hsz := Nat.zero_le _) (knd := tupleKind (mixKind X.prog X.w)) hu (I3.keyAt hk) dd fun h' dd' hs' => wpAny_pure ?_))
  show wpAny _ _ (forIn [] PUnit.unit _) _ _ _
  rw [List.forIn_nil]
  refine wpAny_pure ⟨.ref s.heap.objs.size, _, ?_, rfl, q2⟩
  exact dx_write (kvs' := [(k, b, v)]) I3 e hd (show 1 ≤ sizeLine by decide) (.cons ⟨rfl, rfl, rv⟩ .nil) dd' hs'
end
end L2
namespace L2
open PySem PySem.Spec PySem.Calls PyProof.Rows
section
variable {prog : Program} {w : World} {A : Around} {E : Value → Shared → Prop} {s : Shared} {it d v : Addr} {i ep : Nat} {od : Obj} {es : Array DictEntry} {ok ov : Value}
theorem items_call (hd : (d == sysModules) = false) (hT : s.TypeIs (.ref d) "dict") {Q : Value → Shared → Prop} (h : Q (.ref s.heap.objs.size) { s with heap := s.heap.push { cls := .type "dict_items", data := .fields #[.ref d] } }) :
    wpAny (model prog w) A (call (.builtin "dict.items") [.ref d]) Q E s := by
  refine call_meetsIn (S := fun _ R s' => s'.TypeIs (.ref d) "dict" ∧ R (.ok (.ret (.ref s'.heap.objs.size))) { s' with heap := s'.heap.push { cls := .type "dict_items", data := .fields #[.ref d] } }) F.slot_dict_items hT F.entry_dict_items (F.args_dict_items_1 _) (.of_wp fun A R s' z => ?_) ⟨hT, h⟩
  refine wpAny_bind (wpAny_bind (wpAny_notOrdered_dict z.1 ?_))
  show wpAny _ _ (pure d) _ _ s'
  refine wpAny_pure ?_
  show wpAny _ _ (Builtin.Dict.showsAll d >>= _) _ _ s'
  unfold Builtin.Dict.showsAll
  rw [hd]
  exact wpAny_bind (wpAny_pure (wpAny_bind (wpAny_newObj_type (wpAny_pure ⟨_, rfl, z.2⟩))))
theorem items_iter (hv : s.heap.IsItemsView v d) (ho : s.heap.get? d = some od) (hdd : od.data = .dict es ep) {Q : Value → Shared → Prop}
    (hQ : Q (.ref s.heap.objs.size) { s with heap := s.heap.push { cls := .type "dict_itemiterator", data := .fields #[.none, .bool false, .ref d, .int 0 0, .int es.size 0, .int ep 0, .none, .none] } }) : wpAny (model prog w) A (pyIter (.ref v)) Q E s := by
  obtain ⟨ov, hov, hcv, hdv⟩ := id hv
  refine wpAny_pyIter_slot hv.typeIs F.slot_dict_items_iter (wpAny_call_entry F.slot_dict_items_iter hv.typeIs F.entry_dict_items_iter ?_ (F.args_dict_items_iter_1 _))
  have own : Builtin.Dict_items.ownsTuple "dict_itemiterator" = true := by decide
  unfold Builtin.«dict_items.__iter__» Builtin.Dict_items.dictOf Builtin.Dict_items.newIterator
  refine wpAny_bind (wpAny_pure (wpAny_bind (wpAny_bind (wpAny_field hov hdv (x := .ref d) rfl (wpAny_pure (wpAny_bind (wpAny_bind (wpAny_dictEntries ho hdd (wpAny_bind (wpAny_dictEpoch ho hdd ?_))))))))))
  simp only [own, if_true]
  refine wpAny_newObj_type (wpAny_pure ⟨_, rfl, "dict_itemiterator", _, ⟨_, Heap.get?_push_size _ rfl, rfl⟩, F.slot_dict_itemiterator_next.lookup, ?_⟩) (by simp only [sizeOk, Builtin.Dict_items.ownedTupleFields, List.size_toArray, List.length_append, List.length_cons, List.length_nil, sizeLine_eq]; omega)
  simpa [rawInt, Builtin.Dict_items.ownedTupleFields] using hQ
/-- a field of the iterator is written -/
theorem it_set {vs : Array Value} {k : Nat} {x : Value} {h0 : Heap} (hx : ∀ b o, b ≠ it → h0.get? b = some o → s.heap.get? b = some o) (ho : s.heap.get? it = some { cls := .type "dict_itemiterator", dict := none, data := .fields vs, slots := #[] }) (hk : k < vs.size) {Q : Unit → Shared → Prop}
    (h : ∀ h', h'.get? it = some { cls := .type "dict_itemiterator", dict := none, data := .fields (vs.setIfInBounds k x), slots := #[] } → (∀ b o, b ≠ it → h0.get? b = some o → h'.get? b = some o) → h'.objs.size = s.heap.objs.size → Q () { s with heap := h' }) : wpAny (model prog w) A (setField (.ref it) k x) Q E s :=
  wpAny_setField_rec ho hk fun h' g sb => h h' g (fun b o hb e => sb.extBut b o hb (hx b o hb e)) sb.1
theorem items_next (hit : IsItemIter s.heap it d i es.size ep ok ov) (ho : s.heap.get? d = some od) (hdd : od.data = .dict es ep) (hi : i < es.size) {Q : Option Value → Shared → Prop}
    (hQ : ∀ h', IsItemIterOut h' it d (i + 1) es.size ep es[i].key es[i].val s.heap.objs.size → h'.get? s.heap.objs.size = some { cls := .type "tuple", data := .seq #[es[i].key, es[i].val] } → (∀ b o, b ≠ it → s.heap.get? b = some o → h'.get? b = some o) → Q (some (.ref s.heap.objs.size)) { s with heap := h' }) :
    wpAny (model prog w) A (pyNext (.ref it)) Q E s := by
  have own : Builtin.Dict_items.ownsTuple "dict_itemiterator" = true := by decide
  have tp : ∀ {s' : Shared} {vs : Array Value}, s'.heap.get? it = some { cls := .type "dict_itemiterator", dict := none, data := .fields vs, slots := #[] } → s'.TypeIs (.ref it) "dict_itemiterator" := fun e => ⟨_, e, rfl⟩
  have il := Heap.lt_size hit
  unfold pyNext
  refine wpAny_bind (wpAny_attempt (wpAny_callSpecial?_slot (name := Str.ofString "__next__") (tp hit) F.slot_dict_itemiterator_next (wpAny_call_entry F.slot_dict_itemiterator_next (tp hit) F.entry_dict_itemiterator_next ?_ (F.args_dict_itemiterator_next_1 _))))
  refine wpAny_bind (wpAny_pure (wpAny_bind (wpAny_bind (wpAny_bind (wpAny_typeNameOfWhole_itemiter (tp hit) (wpAny_pure (wpAny_bind (wpAny_fieldsOf hit rfl ?_))))))))
  simp only [own, if_true]
  show wpAny _ _ (if (Value.ref d == Value.none) = true then _ else _) _ _ _
  rw [if_neg (show ¬ ((Value.ref d == Value.none) = true) from Bool.false_ne_true)]
  refine wpAny_bind (wpAny_pure (wpAny_bind (wpAny_dictEntries ho hdd ?_)))
  rw [if_neg (by simp)]
  refine wpAny_bind (wpAny_pure (wpAny_bind (wpAny_dictEpoch ho hdd ?_)))
  rw [if_neg (by simp)]
  refine wpAny_pure ?_
  simp only [show ¬ ((i : Int) < 0) from by omega, if_false, Int.toNat_natCast, Array.getElem?_eq_getElem hi]
  refine wpAny_bind (wpAny_bind (wpAny_typeNameOfWhole_itemiter (tp hit) (wpAny_pure (wpAny_bind (wpAny_isOneOf_itemiter (tp hit) ?_)))))
  show wpAny _ _ (setField (.ref it) 3 (rawInt ((i : Int) + 1)) >>= _) _ _ _
  refine wpAny_bind (it_set (h0 := s.heap) (fun _ _ _ e => e) hit (by simp) fun h1 g1 k1 z1 => ?_)
  refine wpAny_bind (wpAny_holding (wpAny_bind (wpAny_isOneOf_itemiter (tp g1) (wpAny_bind (wpAny_isOneOf_itemiter (tp g1) ?_)))))
  show wpAny _ _ (Builtin.Dict_items.pairFromOwner (.ref it) 6 es[i].key es[i].val) _ _ _
  unfold Builtin.Dict_items.pairFromOwner
  refine wpAny_bind (wpAny_newTuple ?_)
  have z1 : h1.objs.size = s.heap.objs.size := z1
  have t2 : (h1.push { cls := .type "tuple", data := .seq #[es[i].key, es[i].val] }).get? s.heap.objs.size = some { cls := .type "tuple", data := .seq #[es[i].key, es[i].val] } := by rw [← z1]; exact Heap.get?_push_size _ rfl
  have g2 := Heap.get?_push_of_some { cls := .type "tuple", data := .seq #[es[i].key, es[i].val] } g1
  have k2 : ∀ b o, b ≠ it → s.heap.get? b = some o → (h1.push { cls := .type "tuple", data := .seq #[es[i].key, es[i].val] }).get? b = some o := fun b o hb e => Heap.get?_push_of_some _ (k1 b o hb e)
  show wpAny _ _ (Builtin.Dict_items.ownedTupleIsFree (.ref it) >>= _) _ _ { s with heap := h1.push { cls := .type "tuple", data := .seq #[es[i].key, es[i].val] } }
  rw [z1]
  generalize h1.push { cls := .type "tuple", data := .seq #[es[i].key, es[i].val] } = h2 at *
  unfold Builtin.Dict_items.ownedTupleIsFree
  refine wpAny_bind (wpAny_bind (wpAny_field g2 rfl (x := .none) rfl (wpAny_pure ?_)))
  simp only [if_true]
  refine wpAny_bind (wpAny_field g2 rfl (x := ok) rfl (wpAny_bind (wpAny_field g2 rfl (x := ov) rfl ?_)))
  have kk : ∀ b o, b ≠ it → h2.get? b = some o → h2.get? b = some o := fun _ _ _ e => e
  refine wpAny_bind (it_set (h0 := h2) kk g2 (by simp) fun h3 g3 k3 _ => ?_)
  refine wpAny_bind (it_set (h0 := h2) k3 g3 (by simp) fun h4 g4 k4 _ => ?_)
  refine wpAny_bind (it_set (h0 := h2) k4 g4 (by simp) fun h5 g5 k5 _ => ?_)
  refine wpAny_bind (it_set (h0 := h2) k5 g5 (by simp) fun h6 g6 k6 _ => ?_)
  refine wpAny_bind (wpAny_letGo (wpAny_pure (wpAny_pure ⟨_, rfl, wpAny_pure (hQ h6 ?_ (k6 _ _ (Nat.ne_of_gt il) t2) fun b o hb e => k6 b o hb (k2 b o hb e))⟩)))
  have e : ((i + 1 : Nat) : Int) = (i : Int) + 1 := by omega
  unfold IsItemIterOut
  rw [e]
  simpa [rawInt] using g6
theorem items_end (hh : A.handled = none) (hit : IsItemIter s.heap it d i es.size ep ok ov) (ho : s.heap.get? d = some od) (hdd : od.data = .dict es ep) (hi : es.size ≤ i) {Q : Option Value → Shared → Prop} (hQ : ∀ h', Heap.ExtBut it s.heap h' → Q none { s with heap := h' }) :
    wpAny (model prog w) A (pyNext (.ref it)) Q E s := by
  have own : Builtin.Dict_items.ownsTuple "dict_itemiterator" = true := by decide
  have hT : s.TypeIs (.ref it) "dict_itemiterator" := ⟨_, hit, rfl⟩
  unfold pyNext
  refine wpAny_bind (wpAny_attempt (wpAny_callSpecial?_slot (name := Str.ofString "__next__") hT F.slot_dict_itemiterator_next (wpAny_call_entry F.slot_dict_itemiterator_next hT F.entry_dict_itemiterator_next ?_ (F.args_dict_itemiterator_next_1 _))))
  refine wpAny_bind (wpAny_pure (wpAny_bind (wpAny_bind (wpAny_bind (wpAny_typeNameOfWhole_itemiter hT (wpAny_pure (wpAny_bind (wpAny_fieldsOf hit rfl ?_))))))))
  simp only [own, if_true]
  show wpAny _ _ (if (Value.ref d == Value.none) = true then _ else _) _ _ s
  rw [if_neg (show ¬ ((Value.ref d == Value.none) = true) from Bool.false_ne_true)]
  refine wpAny_bind (wpAny_pure (wpAny_bind (wpAny_dictEntries ho hdd ?_)))
  rw [if_neg (by simp)]
  refine wpAny_bind (wpAny_pure (wpAny_bind (wpAny_dictEpoch ho hdd ?_)))
  rw [if_neg (by simp)]
  refine wpAny_pure ?_
  simp only [show ¬ ((i : Int) < 0) from by omega, if_false, Int.toNat_natCast, Array.getElem?_eq_none hi]
  refine wpAny_bind (wpAny_bind (wpAny_typeNameOfWhole_itemiter hT (wpAny_pure ?_)))
  show wpAny _ _ (setField (.ref it) 2 .none >>= _) _ _ s
  refine wpAny_bind (wpAny_setField hit rfl (by simp) ?_)
  show wpAny _ _ (newExc (.type "StopIteration") [] >>= _) _ _ _
  refine wpAny_bind ?_
  simp only [newExc, newTuple]
  refine wpAny_bind (wpAny_newObj_type ?_ (by size_fits))
  refine wpAny_bind (m := firstArgMember _ _) (wpAny_of_eq (a := Value.none) (by first | rfl | (simp only [firstArgMember]; rfl)) ?_)
  refine wpAny_newObj_type ?_ (by size_fits)
  simp only [raiseNew]
  refine wpAny_bind (wpAny_handled ?_)
  rw [show A.in1.handled = none from hh]
  refine wpAny_bind (wpAny_pure (wpAny_throw ?_))
  refine wpAny_bind (wpAny_isInstance (T := "StopIteration") (b := true) ⟨_, Heap.get?_push_size _ rfl, rfl⟩ isSubtype_stop ?_)
  exact wpAny_pure (hQ _ (((Heap.SameBut.update ..).extBut.push _).push _))
end
/-- a dict of which the entries' number of changes is known: it is being walked -/
def dxAt (w : World) (a : Addr) (kvs : KX) (ep : Nat) (h : Heap) : Prop :=
  kvs.length ≤ sizeLine ∧ (a == sysModules) = false ∧ ∃ xs : List (List Key × Addr × Value), Paired (fun p q => p.1 = q.1 ∧ p.2.1 = q.2.1 ∧ RelV p.2.2 q.2.2) kvs xs ∧
    ∃ o es, h.get? a = some o ∧ o.ExactDict ∧ o.data = .dict es ep ∧ (∀ P : Program, es.toList = xs.map (entryOfKey (tupleKind (mixKind P w)))) ∧ (xs.map (·.1)).Nodup
def dE (w : World) (a : Addr) (kvs : KX) (ep : Nat) : HO := .ext (dxAt w a kvs ep)
theorem dxAt_ok {w : World} {a : Addr} {kvs : KX} {ep : Nat} {h : Heap} (q : dxAt w a kvs ep h) : dxOk w a kvs h := let ⟨z, y, xs, r, o, es, rest⟩ := q; ⟨z, y, xs, r, o, es, ep, rest⟩
theorem dxOk_at {w : World} {a : Addr} {kvs : KX} {h : Heap} (q : dxOk w a kvs h) : ∃ ep, dxAt w a kvs ep h := let ⟨z, y, xs, r, o, es, ep, rest⟩ := q; ⟨ep, z, y, xs, r, o, es, rest⟩
theorem de_obj {P : Program} {w : World} {H : Hp} {h : Heap} {a : Addr} {kvs : KX} {ep : Nat} (q : dxAt w a kvs ep h) : ObjOk P w H h a (dE w a kvs ep) := by
  refine ⟨q, ?_, fun h1 h2 ⟨z, y, xs, r, o, es, e, rest⟩ k => ⟨z, y, xs, r, o, es, k o e, rest⟩⟩
  obtain ⟨_, _, _, _, o, _, e, _⟩ := q
  exact ⟨o, e⟩
/-- the entries of a dict, each as a new pair -/
def Itd (w : World) (d : Addr) (kvs : KX) (ep : Nat) : It :=
  ⟨fun i H => H d = some (dE w d kvs ep) ∧ i < kvs.length, fun i H x H' => ∃ T q, kvs[i]? = some q ∧ x = .ref T ∧ H T = none ∧ H' = upd H T (.tup [.ref q.2.1, q.2.2]), fun i H => H d = some (dE w d kvs ep) ∧ kvs.length ≤ i⟩
section
variable {X : Cx} {pins : List (Addr × Obj)} {σ : St} {H : Hp} {s : Shared} {d : Addr} {kvs : KX} {ep : Nat}
theorem Inv.de (I : Inv X pins σ H s) (e : H d = some (dE X.w d kvs ep)) : dxAt X.w d kvs ep s.heap := (show ObjOk X.prog X.w H s.heap d (dE X.w d kvs ep) from I.hok d _ e).1
theorem Inv.toE (I : Inv X pins σ H s) (e : H d = some (dX X.w d kvs)) : ∃ ep, Inv X pins σ (upd H d (dE X.w d kvs ep)) s := by
  obtain ⟨q, ⟨o, ho⟩, _⟩ := (show ObjOk X.prog X.w H s.heap d (dX X.w d kvs) from I.hok d _ e)
  obtain ⟨ep, q⟩ := dxOk_at q
  exact ⟨ep, I.write (x := d) (e := d) (h' := s.heap) (t' := s.toks) (by rw [e]; exact True.intro) (.inl rfl) (fun _ _ _ z => z) ⟨o, ho⟩ (de_obj q)⟩
theorem turn_items {P : Program} {w : World} {K : PySem.W.Frag} {elts : List Expr} {kk : Nat} {tp : Pos} (it d : Addr) (kvs : KX) (ep : Nat) : Turn P w K (.Tuple elts kk tp) (Itd w d kvs ep) [it] it (fun i h => ∃ ok ov, IsItemIter h it d i kvs.length ep ok ov) where
  mem := by simp
  obj := fun i h st b hb => by
    have e : b = it := by simpa using hb
    subst e
    obtain ⟨ok, ov, st⟩ := st
    exact ⟨_, st, fun v z => by cases z⟩
  keep := fun i h h' st k => let ⟨ok, ov, st⟩ := st; ⟨ok, ov, k it (by simp) _ st⟩
  item := by
    intro X hP hw hK hc i pins s σ H E I hf st hg
    subst hP hw hK
    obtain ⟨ok, ov, st⟩ := st
    obtain ⟨hd, hi⟩ := hg
    obtain ⟨z, y, xs, r, o, es, ho, hex, hdd, hes, hnd⟩ := I.de hd
    have hes := hes X.prog
    have ls : es.size = kvs.length := by
      have := congrArg List.length hes
      rw [List.length_map, ← prd_len r] at this
      simpa using this
    have hi' : i < es.size := by omega
    obtain ⟨f0, f1, f2, f3, f4, f5⟩ := hf it (by simp)
    have hxl : i < xs.length := by rw [← prd_len r]; exact hi
    have hx : xs[i]? = some xs[i] := List.getElem?_eq_getElem hxl
    obtain ⟨q, hq, ⟨e1, e2, e3⟩⟩ := prd_get r hx
    have hee : es[i] = entryOfKey (tupleKind (mixKind X.prog X.w)) xs[i] := by
      have := congrArg (fun l => l[i]?) hes
      rw [List.getElem?_map, hx, Array.getElem?_toList, Array.getElem?_eq_getElem hi'] at this
      exact Option.some.inj this
    have hk1 : es[i].key = .ref q.2.1 := by rw [hee, e2]; rfl
    have hk2 : es[i].val = (xs[i]).2.2 := by rw [hee]; rfl
    have il := Heap.lt_size st
    rw [← ls] at st
    refine items_next st ho hdd hi' fun h1 g1 t1 k1 => ⟨.ref s.heap.objs.size, rfl, wpAny_letOwnedTupleGo_items g1 fun h2 g2 sb => ?_⟩
    rw [hk1, hk2] at t1
    have hT2 : h2.get? s.heap.objs.size = some { cls := .type "tuple", data := .seq #[.ref q.2.1, (xs[i]).2.2] } := (sb.2 _ (Nat.ne_of_gt il)).trans t1
    have I2 : Inv X pins σ (upd H s.heap.objs.size (.tup [.ref q.2.1, q.2.2])) { s with heap := h2 } := by
      refine I.turnedNew (t' := s.toks) (fp := [it]) (fun b ob hb z => ?_) hf (Nat.le_refl _) ⟨two_le, [.ref q.2.1, (xs[i]).2.2], .cons rfl (.cons e3 .nil), ⟨_, hT2, rfl, _, rfl⟩⟩
      have hb1 : b ≠ it := fun z => hb (by simp [z])
      exact (sb.2 b hb1).trans (k1 b ob hb1 z)
    refine ⟨.ref s.heap.objs.size, _, I2, rfl, ⟨s.heap.objs.size, q, hq, rfl, I.hok.fresh (Nat.le_refl _), rfl⟩, ⟨_, _, by rw [← ls]; exact g2⟩, fun b hb => ?_⟩
    have e : b = it := by simpa using hb
    subst e
    rw [upd_ne (Nat.ne_of_lt il)]
    exact f0
  done := by
    intro X hP hw hK hc i pins s σ H E I hf st hg
    subst hP hw hK
    obtain ⟨ok, ov, st⟩ := st
    obtain ⟨hd, hi⟩ := hg
    obtain ⟨z, y, xs, r, o, es, ho, hex, hdd, hes, hnd⟩ := I.de hd
    have ls : es.size = kvs.length := by
      have := congrArg List.length (hes X.prog)
      rw [List.length_map, ← prd_len r] at this
      simpa using this
    obtain ⟨f0, f1, f2, f3, f4, f5⟩ := hf it (by simp)
    rw [← ls] at st hi
    exact items_end (I.ok.hd hc) st ho hdd hi fun h' eb => ⟨rfl, I.turned (t' := s.toks) (fun b o hb e => eb b o hb e) f0 f1 f3 f4 f5⟩
  self := fun A i s Q E st h => let ⟨_, _, st⟩ := st; PySem.W.kcp_self st h
/-- d.items() in a for with a pair of names -/
def iItems (w : World) (td : TE) : TI := fun σ H R => td σ H fun v H1 => ∃ d kvs, v = .ref d ∧ H1 d = some (dX w d kvs) ∧ ∀ ep, R (Itd w d kvs ep) (upd H1 d (dE w d kvs ep))
theorem pi_items {o : Expr} {td : TE} {elts : List Expr} {kk : Nat} {tp apos cpos : Pos} (ho : PE X o td) (hbase : attributeBase o "items" X.env (eval o X.env) = eval o X.env := by rfl) (hline : (apos.endLine == cpos.line) = true := by rfl) :
    PI X (.Tuple elts kk tp) (.Call (.Attribute o "items" apos) [] [] cpos) (iItems X.w td) := by
  intro pins s σ H R I h
  refine wpAny_Call_method0_late hbase hline (thn (ho pins s σ H _ I h) fun v s1 ⟨x, H1, I1, r1, d, kvs, e, hd, q⟩ => ?_)
  subst e
  obtain rfl : v = Value.ref d := r1
  obtain ⟨⟨z, y, xs, r, o', es', ep', g1, g2, g3, g4, g5⟩, _⟩ := (show ObjOk X.prog X.w H1 s1.heap d (dX X.w d kvs) from I1.hok d _ hd)
  have hT : s1.TypeIs (.ref d) "dict" := ⟨o', g1, g2.1⟩
  refine ⟨"dict", "dict.items", F.plainAttrs_dict, F.slot_dict_items, F.type_dict_items, hT, (fun b hb => by cases hb; exact ⟨o', g1, g2.2.1⟩), Calls.callWith_builtin rfl (PySem.evalArgs_none (items_call y hT ?_))⟩
  have I2 : Inv X pins σ H1 { s1 with heap := s1.heap.push { cls := .type "dict_items", data := .fields #[.ref d] } } := I1.kept (t' := s1.toks) fun b ob q => Heap.get?_push_of_some _ q
  obtain ⟨ep, I3⟩ := I2.toE hd
  obtain ⟨_, _, xs, r, o, es, h1, h2, h3, h4, h5⟩ := I3.de upd_same
  have ls : es.size = kvs.length := by
    have := congrArg List.length (h4 X.prog)
    rw [List.length_map, ← prd_len r] at this
    simpa using this
  refine items_iter ⟨_, Heap.get?_push_size _ rfl, rfl, rfl⟩ h1 h3 ?_
  rw [ls]
  generalize s1.heap.push { cls := .type "dict_items", data := .fields #[.ref d] } = h0 at *
  refine ⟨h0.objs.size, [h0.objs.size], _, _, _, rfl, I3.kept (t' := s1.toks) fun b ob q => Heap.get?_push_of_some _ q, turn_items h0.objs.size d kvs ep, ⟨.none, .none, Heap.get?_push_size _ rfl⟩, fun b hb => ?_, q ep⟩
  have e : b = h0.objs.size := by simpa using hb
  subst e
  exact I3.fpOk (Nat.le_refl _) (I3.hok.fresh (Nat.le_refl _))
theorem Inv.dxe {a : Addr} (I : Inv X pins σ H s) (e : H a = some (dE X.w a kvs ep)) (ok : KeysOk X.K H kvs) : (a == sysModules) = false ∧ ∃ xs, Paired (fun (p : List Key × Addr × V) (q : List Key × Addr × Value) => p.1 = q.1 ∧ p.2.1 = q.2.1 ∧ RelV p.2.2 q.2.2) kvs xs ∧ s.heap.DictOfH (tupleKind (mixKind X.prog X.w)) a xs := by
  have q := I.de e
  obtain ⟨o, ho⟩ : ∃ o, s.heap.get? a = some o := let ⟨_, _, _, _, o, _, h, _⟩ := q; ⟨o, h⟩
  have I2 : Inv X pins σ (upd H a (dX X.w a kvs)) s := I.write (x := a) (e := a) (h' := s.heap) (t' := s.toks) (by rw [e]; exact True.intro) (.inl rfl) (fun _ _ _ z => z) ⟨o, ho⟩ (dx_obj (dxAt_ok q))
  exact (I2.dx upd_same (ok.upd e)).2
/-- d[y] while d is walked -/
def tXGetE (w : World) (K : PySem.W.Frag) (td ty : TE) : TE := fun σ H Q => td σ H fun x H1 => ty σ H1 fun y H2 => ∃ a b k kvs ep v, x = .ref a ∧ y = .ref b ∧ H2 a = some (dE w a kvs ep) ∧ KeysOk K H2 kvs ∧ SqT K H2 b (k.map kV) ∧ atX kvs k = some v ∧ Q v H2
theorem pe_xgetE {o i : Expr} {td ty : TE} {pos : Pos} (hu : X.A.units + 1 < cLine) (ho : PE X o td) (hi : PE X i ty) (hs : ∀ ov iv, subscripted i false ov iv = operate [ov, iv] (getItem ov iv)) : PE X (.Subscript o i pos) (tXGetE X.w X.K td ty) := by
  intro pins s σ H Q I h
  refine Subscript_ (thn (ho pins s σ H _ I h) fun u s1 ⟨x, H1, I1, rx, q1⟩ => thn (hi pins s1 σ H1 _ I1 q1) fun iv s2 ⟨y, H2, I2, ry, a, b, k, kvs, ep, v, ex, ey, e, ok, hk, ev, q2⟩ => ?_)
  subst ex; subst ey
  obtain rfl : u = Value.ref a := rx
  obtain rfl : iv = Value.ref b := ry
  obtain ⟨hd, xs, r, dd⟩ := I2.dxe e ok
  have hT := dd.typeIs
  have val := dx_val r k
  rw [ev] at val
  obtain ⟨b', w', ea, rv⟩ := val
  unfold subscriptTail
  refine wpAny_bind ?_
  rw [getitemInPython_of_ne hT.not_modules]
  refine wpAny_bind (wpAny_specialOf hT PySem.F.slot_dict_getitem.lookup ?_)
  have fin : wpAny (model X.prog X.w) X.A (subscripted i false (.ref a) (.ref b)) (fun r s₃ => wpAny (model X.prog X.w) X.A (letTemporaryGo o (.ref a) r >>= fun _ => pure r) (EP X pins σ Q) X.xe s₃) X.xe s2 := by
    rw [hs]
    exact wpAny_operating (wpAny_getItem_heap (rm1 hu) (I2.keyAt hk) dd ea (wpAny_bind (wpAny_letTemporaryGo (wpAny_pure ⟨v, H2, I2.tok _, rv, q2⟩))))
  first
    | exact wpAny_pure (wpAny_bind fin)
    | exact wpAny_bind (wpAny_pure (wpAny_bind fin))
    | exact wpAny_bind fin
end
/-- over the entries of a dict that the body leaves as it is -/
theorem for_items {w : World} {d : Addr} {kvs : KX} {ep : Nat} {g : TG} {tb : TS} {D : Ends} {σ : St} {H : Hp} (Pv : Nat → St → Hp → Prop) (h0 : Pv 0 σ H) (hl : ∀ i σ H, i ≤ kvs.length → Pv i σ H → H d = some (dE w d kvs ep))
    (hs : ∀ i q σ H, kvs[i]? = some q → Pv i σ H → ∀ T, H T = none → g (.ref T) σ (upd H T (.tup [.ref q.2.1, q.2.2])) fun σ2 H2 => tb { D with nx := Pv (i + 1), ct := Pv (i + 1), bk := D.nx } σ2 H2) (hd : ∀ σ H, Pv kvs.length σ H → D.nx σ H) :
    ∃ W : Nat → Nat → St → Hp → Prop, (∃ m, W 0 m σ H) ∧ ∀ i m σ H, W i m σ H →
      ((Itd w d kvs ep).stop i H ∧ D.nx σ H) ∨ ((Itd w d kvs ep).go i H ∧ ∃ N : St → Hp → Prop, (∀ σ' H', N σ' H' → ∃ m', m' < m ∧ W (i + 1) m' σ' H') ∧ ∀ x H', (Itd w d kvs ep).yld i H x H' → g x σ H' fun σ2 H2 => tb { D with nx := N, ct := N, bk := D.nx } σ2 H2) := by
  refine ⟨fun i m σ H => m = kvs.length - i ∧ i ≤ kvs.length ∧ Pv i σ H, ⟨kvs.length, by simp, Nat.zero_le _, h0⟩, ?_⟩
  rintro i m σ H ⟨rfl, hi, p⟩
  have q := hl i σ H hi p
  by_cases hlt : i < kvs.length
  · refine .inr ⟨⟨q, hlt⟩, Pv (i + 1), fun σ' H' p' => ⟨kvs.length - (i + 1), by omega, rfl, hlt, p'⟩, fun x H' y => ?_⟩
    obtain ⟨T, r, hr, rfl, hT, rfl⟩ := y
    exact hs i r σ H hr p T hT
  · have e : i = kvs.length := by omega
    subst e
    exact .inl ⟨⟨q, Nat.le_refl _⟩, hd σ H p⟩
end L2
namespace L2
open PySem PySem.Spec PyProof.Rows
def ltK : Key → Key → Bool
  | .inl a, .inl b => decide (a < b)
  | .inr x, .inr y => decide (x.cps.toList < y.cps.toList)
  | _, _ => false
def lexK : List Key → List Key → Bool
  | [], [] => false
  | [], _ :: _ => true
  | _ :: _, [] => false
  | x :: xs, y :: ys => if x = y then lexK xs ys else ltK x y
def alikeK : Key → Key → Bool
  | .inl _, .inl _ => true
  | .inr _, .inr _ => true
  | _, _ => false
def alikeL : List Key → List Key → Bool
  | x :: xs, y :: ys => alikeK x y && alikeL xs ys
  | _, _ => true
theorem kV_inj {x y : Key} (h : kV x = kV y) : x = y := by
  cases x <;> cases y <;> cases h <;> rfl
theorem kV_plain (x : Key) : plainV (kV x) = true := by cases x <;> rfl
theorem eqV_key (x y : Key) : eqV (kV x) (kV y) = decide (x = y) := by
  rw [eqV_plain (kV_plain x) (kV_plain y)]
  exact decide_eq_decide.mpr ⟨kV_inj, fun h => by rw [h]⟩
section
open PySem.SeqAt
open PySem.AutoSeq1 (wpAny_loadPart')
open PySem.MeetsSeq PySem.MeetsSeq2 PySem.MeetsSeq3
theorem rcLt_key {prog : Program} {w : World} {A : Around} {E : Value → Shared → Prop} {Q : Value → Shared → Prop} {s : Shared} {x y : Key} {u v : Value} (al : alikeK x y = true) (rx : RelV (kV x) u) (ry : RelV (kV y) v) (h : Q (.bool (ltK x y)) s) :
    wpAny (model prog w) A (richCompare .Lt u v) Q E s := by
  cases x with
  | inl a =>
    cases y with
    | inl c =>
      obtain ⟨t, rfl⟩ := (show ∃ t, u = Value.int a t from rx)
      obtain ⟨t', rfl⟩ := (show ∃ t, v = Value.int c t from ry)
      exact HT.rcLt_int A s a t c t' prog w E Q h
    | inr c => cases al
  | inr a =>
    cases y with
    | inl c => cases al
    | inr c =>
      obtain ⟨t, rfl⟩ := (show ∃ t, u = Value.str a t from rx)
      obtain ⟨t', rfl⟩ := (show ∃ t, v = Value.str c t from ry)
      exact (PyProof.Rows.lt_str h : wpAny (model prog w) A (compareOp .Lt (.str a t) (.str c t')) Q E s)
end
end L2
namespace L2
open PySem PySem.Spec PyProof.Rows
theorem units1 {k : Nat} {A : Around} (r : Room k A) : A.units + 1 < cLine := by have := r.un; omega
/-- tuples that stay -/
def TK (K : PySem.W.Frag) (H H' : Hp) : Prop := ∀ a xs, SqT K H a xs → SqT K H' a xs
theorem TK.trans {K : PySem.W.Frag} {H1 H2 H3 : Hp} (a : TK K H1 H2) (b : TK K H2 H3) : TK K H1 H3 := fun x xs h => b x xs (a x xs h)
theorem TK.same {K : PySem.W.Frag} {H H' : Hp} (s : Same H H') : TK K H H' := fun _ _ h => s.seqT h
theorem TK.updL {K : PySem.W.Frag} {H : Hp} {d : Addr} {ys : List V} {o : HO} (hd : H d = some (.lst ys)) : TK K H (upd H d o) := fun a xs h => h.tk fun u hu e => by
  have ne : a ≠ d := by
    rintro z
    rw [z, hd] at e
    cases e
    obtain ⟨ys, hu | ⟨o, ys, hu⟩⟩ := hu <;> cases hu
  rw [upd_ne ne]
  exact e
theorem TK.updX {K : PySem.W.Frag} {H : Hp} {d : Addr} {φ : Heap → Prop} {o : HO} (hd : H d = some (.ext φ)) : TK K H (upd H d o) := fun a xs h => h.tk fun u hu e => by
  have ne : a ≠ d := by
    rintro z
    rw [z, hd] at e
    cases e
    obtain ⟨ys, hu | ⟨o, ys, hu⟩⟩ := hu <;> cases hu
  rw [upd_ne ne]
  exact e
theorem KeysOk.mono {K : PySem.W.Frag} {H H' : Hp} {kvs : KX} (t : TK K H H') (h : KeysOk K H kvs) : KeysOk K H' kvs := fun q hq => t _ _ (h q hq)
end L2
namespace My
def Sl (u v : List Nat) : Prop := u.length < v.length ∨ (u.length = v.length ∧ u < v)
theorem sl_lt_app {u v : List Nat} (l m : Nat) (e : u.length = v.length) (h : u < v) : u ++ [l] < v ++ [m] := by
  induction u generalizing v with
  | nil =>
    cases v with
    | nil => exact absurd h (List.lt_irrefl _)
    | cons _ _ => cases e
  | cons a u ih =>
    cases v with
    | nil => cases e
    | cons b v =>
      rcases List.cons_lt_cons_iff.mp h with z | ⟨z, h⟩
      · exact List.cons_lt_cons_iff.mpr (.inl z)
      · exact List.cons_lt_cons_iff.mpr (.inr ⟨z, ih (by simpa using e) h⟩)
theorem sl_app {u v : List Nat} (l m : Nat) (h : Sl u v) : Sl (u ++ [l]) (v ++ [m]) := by
  unfold Sl
  rw [List.length_append, List.length_append]
  rcases h with h | ⟨e, h⟩
  · exact .inl (by simpa using h)
  · exact .inr ⟨by simpa using e, sl_lt_app l m e h⟩
theorem sl_last (u : List Nat) {l m : Nat} (h : l < m) : Sl (u ++ [l]) (u ++ [m]) := by
  refine .inr ⟨by simp, ?_⟩
  induction u with
  | nil => exact List.cons_lt_cons_iff.mpr (.inl h)
  | cons a u ih => exact List.cons_lt_cons_iff.mpr (.inr ⟨rfl, ih⟩)
theorem sl_trans {u v w : List Nat} (h : Sl u v) (h' : Sl v w) : Sl u w := by
  rcases h with h | ⟨e, h⟩
  · rcases h' with h' | ⟨e', _⟩
    · exact .inl (by omega)
    · exact .inl (by omega)
  · rcases h' with h' | ⟨e', h'⟩
    · exact .inl (by omega)
    · exact .inr ⟨by omega, List.lt_trans h h'⟩
theorem sl_irrefl {u : List Nat} (h : Sl u u) : False := by
  rcases h with h | ⟨_, h⟩
  · omega
  · exact List.lt_irrefl _ h
def Sle (u v : List Nat) : Prop := u = v ∨ Sl u v
theorem sle_trans {u v w : List Nat} (h : Sle u v) (h' : Sle v w) : Sle u w := by
  rcases h with rfl | h
  · exact h'
  · rcases h' with rfl | h'
    · exact .inr h
    · exact .inr (sl_trans h h')
theorem sle_app {u v : List Nat} (l : Nat) (h : Sle u v) : Sle (u ++ [l]) (v ++ [l]) := by
  rcases h with rfl | h
  · exact .inl rfl
  · exact .inr (sl_app l l h)
theorem sle_antisymm {u v : List Nat} (h : Sle u v) (h' : Sle v u) : u = v := by
  rcases h with h | h
  · exact h
  · rcases h' with h' | h'
    · exact h'.symm
    · exact (sl_irrefl (sl_trans h h')).elim
theorem nodup_below : ∀ (m : Nat) {l : List Nat}, l.Nodup → (∀ x ∈ l, x < m) → l.length ≤ m
  | 0, l, _, h => by
    cases l with
    | nil => exact Nat.le_refl _
    | cons a l => exact absurd (h a (List.mem_cons_self ..)) (Nat.not_lt_zero _)
  | m + 1, l, nd, h => by
    by_cases hm : m ∈ l
    · have := nodup_below m (nd.erase m) fun x hx => by
        have z := (List.Nodup.mem_erase_iff nd).mp hx
        have := h x z.2
        have := z.1
        omega
      rw [List.length_erase_of_mem hm] at this
      omega
    · have := nodup_below m nd fun x hx => by
        have := h x hx
        have : x ≠ m := fun z => hm (z ▸ hx)
        omega
      omega
/-- a search that is under way: the first i found ones have been led on by every letter, the next by j of them -/
structure Bf {κ : Type} (st : κ → Nat → κ) (k0 : κ) (es : List (κ × List Nat)) (i j : Nat) : Prop where
  inj : (es.map (·.1)).Nodup
  head : ∃ r, es = (k0, []) :: r
  wk : ∀ e ∈ es, e.2.foldl st k0 = e.1
  abc : ∀ e ∈ es, ∀ c ∈ e.2, c = 97 ∨ c = 98 ∨ c = 99
  up : (es.map (·.2)).Pairwise Sl
  cl : ∀ a l, (a < i ∧ l < 3 ∨ a = i ∧ l < j) → ∀ e, es[a]? = some e → ∃ e' ∈ es, e'.1 = st e.1 (97 + l) ∧ Sle e'.2 (e.2 ++ [97 + l])
  fr : ∀ e0, es[i]? = some e0 → ∀ e ∈ es, ∀ l, j ≤ l → Sl e.2 (e0.2 ++ [97 + l])
  len : ∀ e ∈ es, e.2.length < es.length
section
variable {κ : Type} {st : κ → Nat → κ} {k0 : κ} {es : List (κ × List Nat)} {i j : Nat}
theorem bf_start (st : κ → Nat → κ) (k0 : κ) : Bf st k0 [(k0, [])] 0 0 where
  inj := by simp
  head := ⟨[], rfl⟩
  wk := fun e he => by rw [List.mem_singleton.mp he]; rfl
  abc := fun e he c hc => by rw [List.mem_singleton.mp he] at hc; cases hc
  up := by simp
  cl := fun a l h => by omega
  fr := fun e0 h0 e he l _ => by
    rw [List.mem_singleton.mp he]
    exact .inl (by rw [List.length_append]; exact Nat.succ_pos _)
  len := fun e he => by rw [List.mem_singleton.mp he]; exact Nat.zero_lt_one
theorem Bf.there (b : Bf st k0 es i j) (hj : j < 3) {e0 : κ × List Nat} (h0 : es[i]? = some e0) {e' : κ × List Nat} (he : e' ∈ es) (hk : e'.1 = st e0.1 (97 + j)) : Bf st k0 es i (j + 1) where
  inj := b.inj
  head := b.head
  wk := b.wk
  abc := b.abc
  up := b.up
  cl := fun a l h e hae => by
    by_cases z : a = i ∧ l = j
    · obtain ⟨rfl, rfl⟩ := z
      rw [h0] at hae
      cases hae
      exact ⟨e', he, hk, .inr (b.fr _ h0 _ he _ (Nat.le_refl _))⟩
    · exact b.cl a l (by omega) e hae
  fr := fun e1 h1 e he l hl => b.fr e1 h1 e he l (by omega)
  len := b.len
theorem Bf.new (b : Bf st k0 es i j) (hj : j < 3) {e0 : κ × List Nat} (h0 : es[i]? = some e0) (hk : ∀ e ∈ es, e.1 ≠ st e0.1 (97 + j)) : Bf st k0 (es ++ [(st e0.1 (97 + j), e0.2 ++ [97 + j])]) i (j + 1) := by
  have hi : i < es.length := by
    rcases Nat.lt_or_ge i es.length with z | z
    · exact z
    · rw [List.getElem?_eq_none z] at h0; cases h0
  have m0 := List.mem_of_getElem? h0
  have two : ∀ {e}, e ∈ es ++ [(st e0.1 (97 + j), e0.2 ++ [97 + j])] → e ∈ es ∨ e = (st e0.1 (97 + j), e0.2 ++ [97 + j]) := fun h => (List.mem_append.mp h).imp id List.mem_singleton.mp
  have at_ : ∀ {a}, a ≤ i → (es ++ [(st e0.1 (97 + j), e0.2 ++ [97 + j])])[a]? = es[a]? := fun h => List.getElem?_append_left (by omega)
  refine ⟨?_, ?_, fun e he => ?_, fun e he c hc => ?_, ?_, fun a l h e hae => ?_, fun e1 h1 e he l hl => ?_, fun e he => ?_⟩
  · rw [List.map_append, List.nodup_append]
    refine ⟨b.inj, by simp, fun x hx y hy => ?_⟩
    obtain ⟨e, he, rfl⟩ := List.mem_map.mp hx
    rw [List.mem_singleton.mp hy]
    exact hk e he
  · obtain ⟨r, hr⟩ := b.head
    exact ⟨_, by rw [hr]; rfl⟩
  · rcases two he with he | rfl
    · exact b.wk e he
    · rw [List.foldl_append, b.wk e0 m0]; rfl
  · rcases two he with he | rfl
    · exact b.abc e he c hc
    · rcases List.mem_append.mp hc with z | z
      · exact b.abc e0 m0 c z
      · rw [List.mem_singleton.mp z]; omega
  · rw [List.map_append, List.pairwise_append]
    refine ⟨b.up, by simp, fun x hx y hy => ?_⟩
    obtain ⟨e, he, rfl⟩ := List.mem_map.mp hx
    rw [List.mem_singleton.mp hy]
    exact b.fr e0 h0 e he j (Nat.le_refl _)
  · rw [at_ (by omega)] at hae
    by_cases z : a = i ∧ l = j
    · obtain ⟨rfl, rfl⟩ := z
      rw [h0] at hae
      cases hae
      exact ⟨_, List.mem_append_right _ (List.mem_singleton.mpr rfl), rfl, .inl rfl⟩
    · obtain ⟨e', he', q⟩ := b.cl a l (by omega) e hae
      exact ⟨e', List.mem_append_left _ he', q⟩
  · rw [at_ (Nat.le_refl _), h0] at h1
    cases h1
    rcases two he with he | rfl
    · exact b.fr e0 h0 e he l (by omega)
    · exact sl_last _ (by omega)
  · rw [List.length_append]
    rcases two he with he | rfl
    · have := b.len e he
      show _ < es.length + 1
      omega
    · have := b.len e0 m0
      show (e0.2 ++ [97 + j]).length < es.length + 1
      rw [List.length_append]
      show e0.2.length + 1 < es.length + 1
      omega
theorem Bf.next (b : Bf st k0 es i 3) : Bf st k0 es (i + 1) 0 where
  inj := b.inj
  head := b.head
  wk := b.wk
  abc := b.abc
  up := b.up
  cl := fun a l h e hae => b.cl a l (by omega) e hae
  fr := fun e1 h1 e he l _ => by
    have hi : i + 1 < es.length := by
      rcases Nat.lt_or_ge (i + 1) es.length with z | z
      · exact z
      · rw [List.getElem?_eq_none z] at h1; cases h1
    have h0 := List.getElem?_eq_getElem (show i < es.length by omega)
    have s := b.fr _ h0 e he 3 (Nat.le_refl _)
    rw [List.getElem?_eq_getElem hi] at h1
    cases h1
    have up := List.pairwise_iff_getElem.mp b.up i (i + 1) (by rw [List.length_map]; omega) (by rw [List.length_map]; exact hi) (Nat.lt_succ_self _)
    rw [List.getElem_map, List.getElem_map] at up
    exact sl_trans s (sl_app _ _ up)
  len := b.len
/-- the search has ended -/
theorem Bf.full (b : Bf st k0 es es.length 0) {u : List Nat} (hu : ∀ c ∈ u, c = 97 ∨ c = 98 ∨ c = 99) : ∃ e ∈ es, e.1 = u.foldl st k0 ∧ Sle e.2 u := by
  have gen : ∀ (m : Nat) (u : List Nat), u.length = m → (∀ c ∈ u, c = 97 ∨ c = 98 ∨ c = 99) → ∃ e ∈ es, e.1 = u.foldl st k0 ∧ Sle e.2 u := by
    intro m
    induction m with
    | zero =>
      intro u hu _
      cases List.length_eq_zero_iff.mp hu
      obtain ⟨r, hr⟩ := b.head
      exact ⟨(k0, []), by rw [hr]; exact List.mem_cons_self .., rfl, .inl rfl⟩
    | succ m ih =>
      intro u hl hu
      obtain rfl | ⟨v, c, rfl⟩ := List.eq_nil_or_concat u
      · cases hl
      rw [List.concat_eq_append] at hl hu ⊢
      rw [List.length_append] at hl
      obtain ⟨e, he, ek, es'⟩ := ih v (by simpa using hl) fun c hc => hu c (List.mem_append_left _ hc)
      obtain ⟨a, ha⟩ := List.mem_iff_getElem?.mp he
      have hal : a < es.length := by
        rcases Nat.lt_or_ge a es.length with z | z
        · exact z
        · rw [List.getElem?_eq_none z] at ha; cases ha
      obtain ⟨l, hl3, rfl⟩ : ∃ l, l < 3 ∧ c = 97 + l := by
        rcases hu c (List.mem_append_right _ (List.mem_singleton.mpr rfl)) with z | z | z
        · exact ⟨0, by omega, z⟩
        · exact ⟨1, by omega, z⟩
        · exact ⟨2, by omega, z⟩
      obtain ⟨e', he', ek', sl'⟩ := b.cl a l (.inl ⟨hal, hl3⟩) e ha
      refine ⟨e', he', ?_, sle_trans sl' (sle_app _ es')⟩
      rw [List.foldl_append, ek', ek]
      rfl
  exact gen _ u rfl hu
theorem Bf.uniq (b : Bf st k0 es i j) {e e' : κ × List Nat} (he : e ∈ es) (he' : e' ∈ es) (h : e.1 = e'.1) : e = e' := by
  obtain ⟨a, ha, rfl⟩ := List.mem_iff_getElem.mp he
  obtain ⟨c, hc, rfl⟩ := List.mem_iff_getElem.mp he'
  have := (List.nodup_iff_pairwise_ne.mp b.inj)
  have pw := List.pairwise_iff_getElem.mp this
  rcases Nat.lt_trichotomy a c with z | z | z
  · exact absurd (by rw [List.getElem_map, List.getElem_map]; exact h) (pw a c (by rw [List.length_map]; exact ha) (by rw [List.length_map]; exact hc) z)
  · subst z; rfl
  · exact absurd (by rw [List.getElem_map, List.getElem_map]; exact h.symm) (pw c a (by rw [List.length_map]; exact hc) (by rw [List.length_map]; exact ha) z)
/-- no word before the found one leads there -/
theorem Bf.least (b : Bf st k0 es es.length 0) {e : κ × List Nat} (he : e ∈ es) {u : List Nat} (hu : ∀ c ∈ u, c = 97 ∨ c = 98 ∨ c = 99) (hk : u.foldl st k0 = e.1) : Sle e.2 u := by
  obtain ⟨e', he', ek, sl⟩ := b.full hu
  rw [b.uniq he he' (by rw [ek, hk])]
  exact sl
theorem Bf.same {es' : List (κ × List Nat)} (b : Bf st k0 es es.length 0) (b' : Bf st k0 es' es'.length 0) {e e' : κ × List Nat} (he : e ∈ es) (he' : e' ∈ es') (h : e.1 = e'.1) : e.2 = e'.2 :=
  sle_antisymm (b.least he (b'.abc e' he') (by rw [b'.wk e' he', h])) (b'.least he' (b.abc e he) (by rw [b.wk e he, h]))
end
end My
namespace L2
open PySem PySem.Spec PySem.Calls PyProof.Rows
section
variable {prog : Program} {w : World} {A : Around} {E : Value → Shared → Prop} {s : Shared} {it d : Addr} {i ep : Nat} {od : Obj} {es : Array DictEntry}
theorem keys_iter (hd : (d == sysModules) = false) (hT : s.TypeIs (.ref d) "dict") (ho : s.heap.get? d = some od) (hdd : od.data = .dict es ep) {Q : Value → Shared → Prop}
    (hQ : Q (.ref s.heap.objs.size) { s with heap := s.heap.push { cls := .type "dict_keyiterator", data := .fields #[.ref d, .int 0 0, .int es.size 0, .int ep 0] } }) : wpAny (model prog w) A (pyIter (.ref d)) Q E s := by
  refine wpAny_pyIter_slot hT F.slot_dict_iter (wpAny_call_entry F.slot_dict_iter hT F.entry_dict_iter ?_ (F.args_dict_iter_1 _))
  unfold Builtin.«dict.__iter__» Builtin.Dict.dictSlotNone
  refine wpAny_bind (wpAny_bind (wpAny_notOrdered_dict hT ?_))
  show wpAny _ _ (pure (Value.ref d)) _ _ s
  refine wpAny_pure ?_
  show wpAny _ _ (Builtin.Dict.showsAll d >>= _) _ _ s
  unfold Builtin.Dict.showsAll
  rw [hd]
  refine wpAny_bind (wpAny_pure (wpAny_bind (wpAny_dictEntries ho hdd (wpAny_bind (wpAny_dictEpoch ho hdd ?_)))))
  refine wpAny_bind (wpAny_newObj_type (wpAny_pure ⟨_, rfl, "dict_keyiterator", _, ⟨_, Heap.get?_push_size _ rfl, rfl⟩, F.slot_dict_keyiterator_next.lookup, ?_⟩))
  simpa [rawInt] using hQ
theorem keys_next (hit : s.heap.IsKeyIter it d i es.size ep) (hod : s.heap.get? d = some od) (hdd : od.data = .dict es ep) (hi : i < es.size) {Q : Option Value → Shared → Prop}
    (hQ : ∀ h', h'.IsKeyIter it d (i + 1) es.size ep → Heap.SameBut it s.heap h' → Q (some es[i].key) { s with heap := h' }) : wpAny (model prog w) A (pyNext (.ref it)) Q E s := by
  obtain ⟨o, ho, hc, hd⟩ := id hit
  have own : Builtin.Dict_items.ownsTuple "dict_keyiterator" = false := by decide
  unfold pyNext
  refine wpAny_bind (wpAny_attempt (wpAny_callSpecial?_slot (name := Str.ofString "__next__") hit.typeIs F.slot_dict_keyiterator_next (wpAny_call_entry F.slot_dict_keyiterator_next hit.typeIs F.entry_dict_keyiterator_next ?_ (F.args_dict_keyiterator_next_1 _))))
  refine wpAny_bind (wpAny_pure (wpAny_bind (wpAny_bind (wpAny_bind (wpAny_typeNameOfWhole_keyiter hit.typeIs (wpAny_pure (wpAny_bind (wpAny_fieldsOf ho hd ?_))))))))
  simp only [own, Bool.false_eq_true, if_false]
  show wpAny _ _ (if (Value.ref d == Value.none) = true then _ else _) _ _ s
  rw [if_neg (show ¬ ((Value.ref d == Value.none) = true) from Bool.false_ne_true)]
  refine wpAny_bind (wpAny_pure (wpAny_bind (wpAny_dictEntries hod hdd ?_)))
  rw [if_neg (by simp)]
  refine wpAny_bind (wpAny_pure (wpAny_bind (wpAny_dictEpoch hod hdd ?_)))
  rw [if_neg (by simp)]
  refine wpAny_pure ?_
  simp only [show ¬ ((i : Int) < 0) from by omega, if_false, Int.toNat_natCast, Array.getElem?_eq_getElem hi]
  refine wpAny_bind (wpAny_bind (wpAny_typeNameOfWhole_keyiter hit.typeIs (wpAny_pure (wpAny_bind (wpAny_isOneOf_keyiter hit.typeIs ?_)))))
  show wpAny _ _ (setField (.ref it) 1 (rawInt ((i : Int) + 1)) >>= _) _ _ s
  refine wpAny_bind (wpAny_setField ho hd (by simp) ?_)
  have hit' : (s.heap.update it (Obj.mapFields (·.setIfInBounds 1 (rawInt ((i : Int) + 1))))).IsKeyIter it d (i + 1) es.size ep :=
    ⟨_, Heap.get?_update_self _ ho (Obj.isFreed_of_fields (Obj.data_mapFields hd _)), (Obj.cls_mapFields ..).trans hc, by rw [Obj.data_mapFields hd]; simp [rawInt]⟩
  refine wpAny_bind (wpAny_holding (wpAny_bind (wpAny_isOneOf_keyiter (s := { s with heap := s.heap.update it (Obj.mapFields (·.setIfInBounds 1 (rawInt ((i : Int) + 1)))) }) hit'.typeIs ?_)))
  show wpAny _ _ (pure es[i].key) _ _ _
  exact wpAny_pure (wpAny_pure ⟨_, rfl, wpAny_pure (hQ _ hit' (Heap.SameBut.update ..))⟩)
theorem keys_end (hh : A.handled = none) (hit : s.heap.IsKeyIter it d i es.size ep) (hod : s.heap.get? d = some od) (hdd : od.data = .dict es ep) (hi : es.size ≤ i) {Q : Option Value → Shared → Prop} (hQ : ∀ h', Heap.ExtBut it s.heap h' → Q none { s with heap := h' }) :
    wpAny (model prog w) A (pyNext (.ref it)) Q E s := by
  obtain ⟨o, ho, hc, hd⟩ := id hit
  have own : Builtin.Dict_items.ownsTuple "dict_keyiterator" = false := by decide
  unfold pyNext
  refine wpAny_bind (wpAny_attempt (wpAny_callSpecial?_slot (name := Str.ofString "__next__") hit.typeIs F.slot_dict_keyiterator_next (wpAny_call_entry F.slot_dict_keyiterator_next hit.typeIs F.entry_dict_keyiterator_next ?_ (F.args_dict_keyiterator_next_1 _))))
  refine wpAny_bind (wpAny_pure (wpAny_bind (wpAny_bind (wpAny_bind (wpAny_typeNameOfWhole_keyiter hit.typeIs (wpAny_pure (wpAny_bind (wpAny_fieldsOf ho hd ?_))))))))
  simp only [own, Bool.false_eq_true, if_false]
  show wpAny _ _ (if (Value.ref d == Value.none) = true then _ else _) _ _ s
  rw [if_neg (show ¬ ((Value.ref d == Value.none) = true) from Bool.false_ne_true)]
  refine wpAny_bind (wpAny_pure (wpAny_bind (wpAny_dictEntries hod hdd ?_)))
  rw [if_neg (by simp)]
  refine wpAny_bind (wpAny_pure (wpAny_bind (wpAny_dictEpoch hod hdd ?_)))
  rw [if_neg (by simp)]
  refine wpAny_pure ?_
  simp only [show ¬ ((i : Int) < 0) from by omega, if_false, Int.toNat_natCast, Array.getElem?_eq_none hi]
  refine wpAny_bind (wpAny_bind (wpAny_typeNameOfWhole_keyiter hit.typeIs (wpAny_pure ?_)))
  show wpAny _ _ (setField (.ref it) 0 .none >>= _) _ _ s
  refine wpAny_bind (wpAny_setField ho hd (by simp) ?_)
  show wpAny _ _ (newExc (.type "StopIteration") [] >>= _) _ _ _
  refine wpAny_bind ?_
  simp only [newExc, newTuple]
  refine wpAny_bind (wpAny_newObj_type ?_ (by size_fits))
  refine wpAny_bind (m := firstArgMember _ _) (wpAny_of_eq (a := Value.none) (by first | rfl | (simp only [firstArgMember]; rfl)) ?_)
  refine wpAny_newObj_type ?_ (by size_fits)
  simp only [raiseNew]
  refine wpAny_bind (wpAny_handled ?_)
  rw [show A.in1.handled = none from hh]
  refine wpAny_bind (wpAny_pure (wpAny_throw ?_))
  refine wpAny_bind (wpAny_isInstance (T := "StopIteration") (b := true) ⟨_, Heap.get?_push_size _ rfl, rfl⟩ isSubtype_stop ?_)
  exact wpAny_pure (hQ _ (((Heap.SameBut.update ..).extBut.push _).push _))
end
/-- the keys of a dict -/
def Itk (w : World) (d : Addr) (kvs : KX) (ep : Nat) : It :=
  ⟨fun i H => H d = some (dE w d kvs ep) ∧ i < kvs.length, fun i H x H' => H' = H ∧ ∃ q, kvs[i]? = some q ∧ x = .ref q.2.1, fun i H => H d = some (dE w d kvs ep) ∧ kvs.length ≤ i⟩
theorem turn_keys {P : Program} {w : World} {K : PySem.W.Frag} {tg : Expr} (it d : Addr) (kvs : KX) (ep : Nat) : Turn P w K tg (Itk w d kvs ep) [it] it (fun i h => h.IsKeyIter it d i kvs.length ep) where
  mem := by simp
  obj := fun i h st b hb => by
    have e : b = it := by simpa using hb
    subst e
    obtain ⟨o, ho, _, hd⟩ := st
    exact ⟨o, ho, fun v z => by rw [hd] at z; cases z⟩
  keep := fun i h h' st k => let ⟨o, ho, r⟩ := st; ⟨o, k it (by simp) _ ho, r⟩
  item := by
    intro X hP hw hK hc i pins s σ H E I hf st hg
    subst hP hw hK
    obtain ⟨hd, hi⟩ := hg
    obtain ⟨z, y, xs, r, o, es, ho, hex, hdd, hes, hnd⟩ := I.de hd
    have hes := hes X.prog
    have ls : es.size = kvs.length := by
      have := congrArg List.length hes
      rw [List.length_map, ← prd_len r] at this
      simpa using this
    have hi' : i < es.size := by omega
    obtain ⟨f0, f1, f2, f3, f4, f5⟩ := hf it (by simp)
    have hxl : i < xs.length := by rw [← prd_len r]; exact hi
    have hx : xs[i]? = some xs[i] := List.getElem?_eq_getElem hxl
    obtain ⟨q, hq, ⟨e1, e2, e3⟩⟩ := prd_get r hx
    have hk1 : es[i].key = .ref q.2.1 := by
      have := congrArg (fun l => l[i]?) hes
      rw [List.getElem?_map, hx, Array.getElem?_toList, Array.getElem?_eq_getElem hi'] at this
      rw [Option.some.inj this, e2]
      rfl
    rw [← ls] at st
    refine keys_next st ho hdd hi' fun h1 st1 sb => ⟨_, rfl, ?_⟩
    have I1 : Inv X pins σ H { s with heap := h1 } := I.turned (t' := s.toks) (fun b o hb e => (sb.2 b hb).trans e) f0 f1 f3 f4 f5
    obtain ⟨o2, g2, c2, d2⟩ := id st1
    rw [hk1]
    rw [ls] at st1
    exact go_of (s := { s with heap := h1 }) g2 c2 d2 (by decide) ⟨.ref q.2.1, H, I1, rfl, ⟨rfl, q, hq, rfl⟩, st1, fun b hb => (hf b hb).1⟩
  done := by
    intro X hP hw hK hc i pins s σ H E I hf st hg
    subst hP hw hK
    obtain ⟨hd, hi⟩ := hg
    obtain ⟨z, y, xs, r, o, es, ho, hex, hdd, hes, hnd⟩ := I.de hd
    have ls : es.size = kvs.length := by
      have := congrArg List.length (hes X.prog)
      rw [List.length_map, ← prd_len r] at this
      simpa using this
    obtain ⟨f0, f1, f2, f3, f4, f5⟩ := hf it (by simp)
    rw [← ls] at st hi
    exact keys_end (I.ok.hd hc) st ho hdd hi fun h' eb => ⟨rfl, I.turned (t' := s.toks) (fun b o hb e => eb b o hb e) f0 f1 f3 f4 f5⟩
  self := fun A i s Q E st h => wpAny_pyIter_keyiter st h
def iKeys (w : World) (td : TE) : TI := fun σ H R => td σ H fun v H1 => ∃ d kvs, v = .ref d ∧ H1 d = some (dX w d kvs) ∧ ∀ ep, R (Itk w d kvs ep) (upd H1 d (dE w d kvs ep))
theorem pi_keys {X : Cx} {tg o : Expr} {td : TE} (ho : PE X o td) : PI X tg o (iKeys X.w td) := by
  intro pins s σ H R I h
  refine thn (ho pins s σ H _ I h) fun v s1 ⟨x, H1, I1, r1, d, kvs, e, hd, q⟩ => ?_
  subst e
  obtain rfl : v = Value.ref d := r1
  obtain ⟨⟨z, y, xs, r, o', es', ep', g1, g2, g3, g4, g5⟩, _⟩ := (show ObjOk X.prog X.w H1 s1.heap d (dX X.w d kvs) from I1.hok d _ hd)
  obtain ⟨ep, I3⟩ := I1.toE hd
  obtain ⟨_, _, xs, r, o, es, h1, h2, h3, h4, h5⟩ := I3.de upd_same
  have ls : es.size = kvs.length := by
    have := congrArg List.length (h4 X.prog)
    rw [List.length_map, ← prd_len r] at this
    simpa using this
  refine keys_iter y ⟨o', g1, g2.1⟩ h1 h3 ?_
  rw [ls]
  refine ⟨s1.heap.objs.size, [s1.heap.objs.size], _, _, _, rfl, I3.kept (t' := s1.toks) fun b ob q => Heap.get?_push_of_some _ q, turn_keys s1.heap.objs.size d kvs ep, ⟨_, Heap.get?_push_size _ rfl, rfl, rfl⟩, fun b hb => ?_, q ep⟩
  have e : b = s1.heap.objs.size := by simpa using hb
  subst e
  exact I3.fpOk (Nat.le_refl _) (I3.hok.fresh (Nat.le_refl _))
/-- over the keys of a dict that the body leaves as it is -/
theorem for_keys {w : World} {d : Addr} {kvs : KX} {ep : Nat} {g : TG} {tb : TS} {D : Ends} {σ : St} {H : Hp} (Pv : Nat → St → Hp → Prop) (h0 : Pv 0 σ H) (hl : ∀ i σ H, i ≤ kvs.length → Pv i σ H → H d = some (dE w d kvs ep))
    (hs : ∀ i q σ H, kvs[i]? = some q → Pv i σ H → g (.ref q.2.1) σ H fun σ2 H2 => tb { D with nx := Pv (i + 1), ct := Pv (i + 1), bk := D.nx } σ2 H2) (hd : ∀ σ H, Pv kvs.length σ H → D.nx σ H) :
    ∃ W : Nat → Nat → St → Hp → Prop, (∃ m, W 0 m σ H) ∧ ∀ i m σ H, W i m σ H →
      ((Itk w d kvs ep).stop i H ∧ D.nx σ H) ∨ ((Itk w d kvs ep).go i H ∧ ∃ N : St → Hp → Prop, (∀ σ' H', N σ' H' → ∃ m', m' < m ∧ W (i + 1) m' σ' H') ∧ ∀ x H', (Itk w d kvs ep).yld i H x H' → g x σ H' fun σ2 H2 => tb { D with nx := N, ct := N, bk := D.nx } σ2 H2) := by
  refine ⟨fun i m σ H => m = kvs.length - i ∧ i ≤ kvs.length ∧ Pv i σ H, ⟨kvs.length, by simp, Nat.zero_le _, h0⟩, ?_⟩
  rintro i m σ H ⟨rfl, hi, p⟩
  have q := hl i σ H hi p
  by_cases hlt : i < kvs.length
  · refine .inr ⟨⟨q, hlt⟩, Pv (i + 1), fun σ' H' p' => ⟨kvs.length - (i + 1), by omega, rfl, hlt, p'⟩, fun x H' y => ?_⟩
    obtain ⟨rfl, r, hr, rfl⟩ := y
    exact hs i r σ _ hr p
  · have e : i = kvs.length := by omega
    subst e
    exact .inl ⟨⟨q, Nat.le_refl _⟩, hd σ H p⟩
end L2
namespace L2
open PySem PySem.Spec PyProof.Rows

structure BlkScope3 (osc : Scope) (N : List Str) (x z t : Str) (ys : List Str) (js : List Nat) (sc : Scope) : Prop where
  kind : sc.kind = .function
  nocell : ∀ y ∈ sc.names, y.2 ≠ .cell
  loc : ∀ y ∈ sc.names, y.2 = .local → sc.names.lookup y.1 = some .local
  var : sc.names.lookup x = some .local
  var2 : sc.names.lookup z = some .local
  var3 : sc.names.lookup t = some .local
  out : ∀ y ∈ sc.names, y.2 = .free → osc.names.lookup y.1 = some .cell ∨ osc.names.lookup y.1 = some .free
  free : ∀ y ∈ ys, sc.names.lookup y = some .free
  places : js.map (fun j => N[j]?) = ys.map some
  nd : (x :: z :: t :: ys).Nodup
def blkSt3 (js : List Nat) (σ : St) (v v2 v3 : Option V) : St := v :: v2 :: v3 :: js.map fun j => σ.getD j none

section
variable {X : Cx} {pins : List (Addr × Obj)} {σ : St} {H : Hp} {s : Shared} {x z t : Str} {ys : List Str} {js : List Nat} {sc : Scope} {cl : List (Str × Addr)} {fp : List Addr}
theorem blk_ok3 (I : Inv X pins σ H s) (S : BlkScope3 X.env.scope X.N x z t ys js sc) (h1 : ∀ y c, cl.lookup y = some c → X.env.cells.lookup y = some c) (h2 : ∀ y ∈ sc.names, y.2 = .free → ∃ c, cl.lookup y.1 = some c)
    (hf : ∀ b ∈ fp, FpOk X pins H b) (hl : ∀ b ∈ fp, b < s.heap.objs.size) : (X.blk (x :: z :: t :: ys) sc cl s.heap.objs.size s H fp).Ok where
  mod := I.ok.mod
  kind := S.kind
  glob := I.ok.glob
  blt := I.ok.blt
  above := Nat.le_refl _
  inj := fun y z c e1 e2 => I.ok.inj y z c (h1 y c e1) (h1 z c e2)
  has := fun y hy => h2 (y, .free) (relabel_back S.nocell hy) rfl
  cab := fun y c e => nomatch e
  hd := I.ok.hd
  frames := I.ok.frames
  stk := .inl rfl
  exf := fun b hb => ⟨Nat.ne_of_lt (hl b hb), fun y c e => (hf b hb).2.2.2.2.1 y c (h1 y c e)⟩
  bs := I.bs
  bsz := Nat.le_trans I.ok.bsz I.sz
  noex := fun b o e hb => by
    rcases (hf b hb).2.2.2.1 with z | z
    · exact I.ok.noex b o e z
    · exact absurd (Nat.lt_of_lt_of_le (Heap.lt_size e) (Nat.le_trans I.ok.bsz z)) (Nat.lt_irrefl _)
  exfs := fun b hb z => by
    rcases List.mem_cons.mp (I.stkSub b z) with q | q
    · exact (hf b hb).2.1 q
    · exact (hf b hb).2.2.1 q
  funs := I.stack
  frf := I.stkFree

theorem blk_start3 {h' : Heap} {t' : Nat} {m : Str → Option Value} (I : Inv X pins σ H s) (S : BlkScope3 X.env.scope X.N x z t ys js sc) (h1 : ∀ y c, cl.lookup y = some c → X.env.cells.lookup y = some c) (h2 : ∀ y ∈ sc.names, y.2 = .free → ∃ c, cl.lookup y.1 = some c)
    (hf : ∀ b ∈ fp, FpOk X pins H b) (hl : ∀ b ∈ fp, b < s.heap.objs.size) (hn : h'.Ns s.heap.objs.size m) (hk : ∀ b o, s.heap.get? b = some o → h'.get? b = some o) :
    Inv (X.blk (x :: z :: t :: ys) sc cl s.heap.objs.size s H fp) [] (blkSt3 js σ none none none) H { s with heap := h', toks := t' } where
  ok := blk_ok3 I S h1 h2 hf hl
  os := rfl
  bare := I.bare
  base := Un.kept hk
  loc := ⟨m, hn, fun i y v e1 e2 e3 => by
    match i with
    | 0 => cases (show some (none : Option V) = some (some v) from e2)
    | 1 => cases (show some (none : Option V) = some (some v) from e2)
    | 2 => cases (show some (none : Option V) = some (some v) from e2)
    | i + 3 =>
      have e1 : ys[i]? = some y := e1
      have e2 : (js.map fun j => σ.getD j none)[i]? = some (some v) := e2
      rw [List.getElem?_map] at e2
      cases ej : js[i]? with
      | none => rw [ej] at e2; cases e2
      | some j =>
        rw [ej] at e2
        have e2 : σ.getD j none = some v := Option.some.inj e2
        have e4 : σ[j]? = some (some v) := by
          cases q : σ[j]? with
          | none => rw [List.getD_eq_getElem?_getD, q] at e2; cases e2
          | some u => rw [List.getD_eq_getElem?_getD, q] at e2; rw [← e2]; rfl
        have e5 : X.N[j]? = some y := by
          have q := congrArg (fun l => l[i]?) S.places
          simp only [List.getElem?_map, ej, e1, Option.map_some] at q
          exact Option.some.inj q
        have e6 : (y, NameKind.free) ∈ sc.names := PySem.mem_of_lookup (S.free y (List.mem_of_getElem? e1))
        have e7 := S.out _ e6 rfl
        obtain ⟨m0, _, hl0⟩ := I.loc
        obtain ⟨u, r, lk⟩ := hl0 j y v e5 e4 (e7.elim (fun z => .inr (.inl z)) fun z => .inr (.inr z))
        refine ⟨u, r, .inr ⟨relabel_free (S.free y (List.mem_of_getElem? e1)), ?_⟩⟩
        rcases lk with ⟨k, _⟩ | ⟨_, c, ec, z⟩
        · have k : X.env.scope.names.lookup y = some .local := k
          rcases e7 with z | z <;> (rw [k] at z; cases z)
        · obtain ⟨c', ec'⟩ := h2 _ e6 rfl
          have q := h1 _ _ ec'
          have q : X.env.cells.lookup y = some c' := q
          rw [ec] at q; cases q
          obtain ⟨o, ho, hd⟩ := z
          exact ⟨c, ec', o, hk _ _ ho, hd⟩⟩
  cell := fun y c e => by
    obtain ⟨v, o, ho, hd⟩ := I.cell y c (h1 y c e)
    exact ⟨v, o, hk _ _ ho, hd⟩
  free := I.hok.fresh (Nat.le_refl _)
  freeC := fun y c e => I.freeC y c (h1 y c e)
  pin := fun p hp => absurd (show p ∈ ([] : List (Addr × Obj)) from hp) (by simp)
  hok := I.hok.kept hk
  len := by
    show (none :: none :: none :: js.map fun j => σ.getD j none).length = (x :: z :: t :: ys).length
    have q := congrArg List.length S.places
    simp only [List.length_map] at q
    simp [q]

/-- behind the block -/
theorem blk_end3 {H5 : Hp} {s5 : Shared} {σ5 : St} {pl : List (Addr × Obj)} (I : Inv X pins σ H s) (hf : ∀ b ∈ fp, FpOk X pins H b) (J : Inv (X.blk (x :: z :: t :: ys) sc cl s.heap.objs.size s H fp) pl σ5 H5 s5) :
    Inv X pins σ H5 s5 ∧ FpOk X pins H5 s.heap.objs.size ∧ ∃ oC m, s5.heap.get? s.heap.objs.size = some oC ∧ (∀ h : Heap, h.get? s.heap.objs.size = some oC → h.Ns s.heap.objs.size m) ∧ Inv X (pins ++ [(s.heap.objs.size, oC)]) σ H5 s5 := by
  have I5 : Inv X pins σ H5 s5 := I.call' (ch := fp) J.os J.base J.hok J.bare fun b hb => ⟨(hf b hb).2.2.2.1, (hf b hb).2.1, (hf b hb).2.2.2.2.1, (hf b hb).2.2.2.2.2⟩
  have F5 : FpOk X pins H5 s.heap.objs.size := I.fpOk (Nat.le_refl _) J.free
  obtain ⟨m, ⟨o, es, ep, ho, hd, r⟩, _⟩ := J.loc
  refine ⟨I5, F5, o, m, ho, fun h e => ⟨o, es, ep, e, hd, r⟩, I5.pins_of fun p hp => ?_⟩
  rcases List.mem_append.mp hp with z | z
  · exact I5.pin p (List.mem_append_right _ z)
  · have z : p = (s.heap.objs.size, o) := by simpa using z
    subst z
    exact ⟨ho, J.free, F5.2.1, F5.2.2.1, fun v q => by rw [hd] at q; cases q⟩
end

/-- what such a comprehension's walk wants: each turn a tuple of three -/
def CompBy3 (K : PySem.W.Frag) (js : List Nat) (te : TE) (σ : St) (J : It) (H : Hp) (Fin : Addr → Hp → Prop) : Prop :=
  ∀ D, H D = none → ∃ W : Nat → Nat → List V → Hp → Prop, (∃ m, W 0 m [] (upd H D (.lst []))) ∧ ∀ i m ys H', W i m ys H' → H' D = some (.lst ys) ∧
    ((J.stop i H' ∧ Fin D H') ∨ (J.go i H' ∧ ∃ N : List V → Hp → Prop, (∀ zs H'', N zs H'' → ∃ m', m' < m ∧ W (i + 1) m' zs H'') ∧ ∀ v H2, J.yld i H' v H2 → ∃ T a b d, v = .ref T ∧ SqT K H2 T [a, b, d] ∧
      te (blkSt3 js σ (some a) (some b) (some d)) H2 fun y H4 => H4 D = some (.lst ys) ∧ ys.length < sizeLine ∧ N (ys ++ [y]) (upd H4 D (.lst (ys ++ [y])))))

section
variable {X : Cx} {pins : List (Addr × Obj)} {σ : St} {H : Hp} {s : Shared} {x z t : Str} {ys : List Str} {js : List Nat} {sc : Scope} {cl : List (Str × Addr)} {fp : List Addr}
theorem comp_block3 {elt iter : Expr} {px pz pu pt pos : Pos} {tk : Nat} {te : TE} {J : It} {it : Addr} {tn : Nat → Heap → Prop} {Fin : Addr → Hp → Prop} {E : Value → Shared → Prop} {RR : Value → Addr → Result → Shared → Prop}
    (hc : X.calm = true) (I : Inv X pins σ H s) (S : BlkScope3 X.env.scope X.N x z t ys js sc) (h1 : ∀ y c, cl.lookup y = some c → X.env.cells.lookup y = some c) (h2 : ∀ y ∈ sc.names, y.2 = .free → ∃ c, cl.lookup y.1 = some c)
    (T : Turn X.prog X.w X.K (.Tuple [.Name x px, .Name z pz, .Name t pu] tk pt) J fp it tn) (st : tn 0 s.heap) (hf : ∀ b ∈ fp, FpOk X pins H b)
    (he : ∀ cl C s H ex, PE (X.blk (x :: z :: t :: ys) sc cl C s H ex) elt te)
    (hw : CompBy3 X.K js te σ J H Fin)
    (hRR : ∀ D C oC m s5 H5, Inv X pins σ H5 s5 → FpOk X pins H5 C → s5.heap.get? C = some oC → (∀ h : Heap, h.get? C = some oC → h.Ns C m) → Inv X (pins ++ [(C, oC)]) σ H5 s5 → Fin D H5 → RR (.ref D) C (.ok .next) s5) :
    wpAny (model X.prog X.w) X.A (newList []) (fun acc s₃ => wpAny (model X.prog X.w) X.A (newFunctionEnv sc X.env.globals cl [] X.env.qual none .none (some X.env)) (fun cenv s₄ =>
      codeAny (model X.prog X.w) X.A (.compStart (.ListComp elt [⟨.Tuple [.Name x px, .Name z pz, .Name t pu] tk pt, iter, [], 0⟩] sc pos) 0 (.ref it) acc { cenv with scope := relabel sc X.env }) (RR acc cenv.locals) s₄) E s₃) E s := by
  refine wpAny_newObj_type (wpAny_newFunctionEnv S.nocell (by intro y hy; simp at hy) (fun h₁ hns₁ hsb₁ => ?_) S.kind)
  have hD : H s.heap.objs.size = none := I.hok.fresh (Nat.le_refl _)
  have I1 : Inv X pins σ (upd H s.heap.objs.size (.lst [])) { s with heap := s.heap.push { cls := .type "list", dict := none, data := .seq ([] : List Value).toArray }, toks := s.toks } :=
    I.laid (t' := s.toks) (fun b u e => Heap.get?_push_of_some _ e) (Nat.le_refl _) ⟨Nat.zero_le _, [], 0, .nil, Heap.get?_push_size _ rfl⟩
  have hfl : ∀ b ∈ fp, b < s.heap.objs.size := fun b hb => by
    obtain ⟨o, e, _⟩ := T.obj 0 _ st b hb
    exact Heap.lt_size e
  generalize hs1 : ({ s with heap := s.heap.push { cls := .type "list", dict := none, data := .seq ([] : List Value).toArray }, toks := s.toks } : Shared) = s1 at I1
  have sz1 : s1.heap.objs.size = s.heap.objs.size + 1 := by rw [← hs1]; exact Heap.size_push _ _
  have old : ∀ b o, s.heap.get? b = some o → s1.heap.get? b = some o := fun b o e => by rw [← hs1]; exact Heap.get?_push_of_some _ e
  rw [hs1] at hns₁ hsb₁
  try rw [hs1]
  have hf1 : ∀ b ∈ fp, FpOk X pins (upd H s.heap.objs.size (.lst [])) b := fun b hb => ⟨by rw [upd_ne (Nat.ne_of_lt (hfl b hb))]; exact (hf b hb).1, (hf b hb).2⟩
  have hfl1 : ∀ b ∈ fp, b < s1.heap.objs.size := fun b hb => by rw [sz1]; exact Nat.lt_succ_of_lt (hfl b hb)
  have old1 : ∀ b o, s1.heap.get? b = some o → h₁.get? b = some o := fun b o e => hsb₁.extBut b o (Nat.ne_of_lt (Heap.lt_size e)) (Heap.get?_push_of_some _ e)
  have I2 := blk_start3 (t' := s1.toks + ([] : List (Str × Value)).length) I1 S h1 h2 hf1 hfl1 hns₁ old1
  have st2 : tn 0 h₁ := T.keep 0 _ _ st fun b _ o e => old1 b o (old b o e)
  obtain ⟨W, ⟨m0, w0⟩, turn⟩ := hw s.heap.objs.size hD
  have fr0 : ∀ b ∈ fp, (upd H s.heap.objs.size (.lst [])) b = none := fun b hb => (hf1 b hb).1
  have stat : ∀ {H' : Hp} {pl : List (Addr × Obj)}, (∀ b ∈ fp, H' b = none) → (∀ b ∈ fp, ∀ p ∈ pl, p.1 ≠ b) → ∀ b ∈ fp, FpOk (X.blk (x :: z :: t :: ys) sc cl s1.heap.objs.size s1 (upd H s.heap.objs.size (.lst [])) fp) pl H' b := fun hn hp b hb =>
    ⟨hn b hb, (I2.ok.exf b hb).1, I2.ok.exfs b hb, .inl hb, (I2.ok.exf b hb).2, fun p hpp => hp b hb p (by simpa [Cx.blk] using hpp)⟩
  have loop : codeAny (model X.prog X.w) X.A (.compLoop (.ListComp elt [⟨.Tuple [.Name x px, .Name z pz, .Name t pu] tk pt, iter, [], 0⟩] sc pos) 0 (.ref it) (.ref s.heap.objs.size) (compEnvC sc cl s1.heap.objs.size X.env)) (RR (.ref s.heap.objs.size) s1.heap.objs.size)
      { s1 with heap := h₁, toks := s1.toks + ([] : List (Str × Value)).length } := by
    refine PyProof.Rows.LCp.codeAny_compLoop_pair (fun n s' => ∃ i zs H', Inv (X.blk (x :: z :: t :: ys) sc cl s1.heap.objs.size s1 (upd H s.heap.objs.size (.lst [])) fp) [] (blkSt3 js σ none none none) H' s' ∧ tn i s'.heap ∧ (∀ b ∈ fp, H' b = none) ∧ W i n zs H') ?_ m0 ⟨0, [], _, I2, st2, fr0, w0⟩
    rintro n s3 ⟨i, zs, H3, I3, st3, fr3, w3⟩
    obtain ⟨hD3, tr⟩ := turn i n zs H3 w3
    rcases tr with ⟨stop, fin⟩ | ⟨go, N, hN, step⟩
    · refine thn (T.done (X.blk (x :: z :: t :: ys) sc cl s1.heap.objs.size s1 (upd H s.heap.objs.size (.lst [])) fp) rfl rfl rfl hc i [] s3 _ H3 _ I3 (stat fr3 (fun _ _ _ z => nomatch z)) st3 stop) fun r s4 ⟨hr, I4⟩ => ?_
      subst hr
      obtain ⟨I5, F5, oC, m, ho, hns, I6⟩ := blk_end3 I1 hf1 I4
      exact hRR _ _ oC m _ _ I5 F5 ho hns I6 fin
    · refine thn (T.item (X.blk (x :: z :: t :: ys) sc cl s1.heap.objs.size s1 (upd H s.heap.objs.size (.lst [])) fp) rfl rfl rfl hc i [] s3 _ H3 _ I3 (stat fr3 (fun _ _ _ z => nomatch z)) st3 go) fun r s4 ⟨u, hr, h4⟩ => ?_
      subst hr
      refine thn h4 fun _ s5 ⟨v, H5, I5, r5, y5, st5, fr5⟩ => ?_
      have I5' := I5.pinned (stat fr5 (fun _ _ _ z => nomatch z)) (T.obj _ _ st5)
      obtain ⟨Ta, a, b, d, ev, hq, step⟩ := step v H5 y5
      have lx : Vis (X.blk (x :: z :: t :: ys) sc cl s1.heap.objs.size s1 (upd H s.heap.objs.size (.lst [])) fp).env.scope x := .inl (lookup_relabel_local S.var)
      have tgt := pg_tup (X := X.blk (x :: z :: t :: ys) sc cl s1.heap.objs.size s1 (upd H s.heap.objs.size (.lst [])) fp) (pos := pt) (k := tk) (n := 3) hc
        (pgs_cons (pg_name (i := 0) (pos := px) S.nd rfl (.inl (lookup_relabel_local S.var)) (.inr (lookup_relabel_local S.var))) (pgs_cons (pg_name (i := 1) (pos := pz) S.nd rfl (.inl (lookup_relabel_local S.var2)) (.inr (lookup_relabel_local S.var2))) (pgs_cons (pg_name (i := 2) (pos := pu) S.nd rfl (.inl (lookup_relabel_local S.var3)) (.inr (lookup_relabel_local S.var3))) pgs_nil)))
      refine wpAny_mono (tgt _ s5 _ H5 v u (fun σ' H' => σ' = blkSt3 js σ (some a) (some b) (some d) ∧ H' = H5) I5' r5 ⟨Ta, _, ev, hq, rfl, a, [b, d], rfl, b, [d], rfl, d, [], rfl, rfl, rfl, rfl⟩)
        (fun _ s6 ⟨σ6, H6, I6, e6, e7⟩ => ?_) (fun _ _ z => nomatch z)
      subst e6; subst e7
      have again : ∀ {σ8 : St} {H8 : Hp} {s8 : Shared} {zs' : List V}, Inv (X.blk (x :: z :: t :: ys) sc cl s1.heap.objs.size s1 (upd H s.heap.objs.size (.lst [])) fp) ([] ++ pinsAt fp s5.heap) (blkSt3 js σ (some a) (some b) (some d)) H8 s8 → N zs' H8 →
          ∃ m, m < n ∧ ∃ i zs H', Inv (X.blk (x :: z :: t :: ys) sc cl s1.heap.objs.size s1 (upd H s.heap.objs.size (.lst [])) fp) [] (blkSt3 js σ none none none) H' s8 ∧ tn i s8.heap ∧ (∀ b ∈ fp, H' b = none) ∧ W i m zs H' := by
        intro σ8 H8 s8 zs' I8 n8
        obtain ⟨m', hm, w8⟩ := hN _ _ n8
        refine ⟨m', hm, i + 1, zs', H8, (Inv.unpinned I8).weak rfl (fun k w e => ?_), T.keep _ _ _ st5 fun b hb o e => (I8.pin (b, o) (List.mem_append_right _ (List.mem_append_right _ (mem_pinsAt hb e)))).1, fun b hb => ?_, w8⟩
        · match k with
          | 0 => cases (show some (none : Option V) = some (some w) from e)
          | 1 => cases (show some (none : Option V) = some (some w) from e)
          | 2 => cases (show some (none : Option V) = some (some w) from e)
          | k + 3 => exact e
        · obtain ⟨o, e, d⟩ := T.obj _ _ st5 b hb
          exact (I8.pin (b, o) (List.mem_append_right _ (List.mem_append_right _ (mem_pinsAt hb e)))).2.1
      refine wpAny_mono (he _ _ _ _ _ _ s6 _ _ _ I6 step) (fun u8 s8 ⟨y8, H8, I8, r8, hD8, hz8, q8⟩ => ?_) (fun _ _ z => nomatch z)
      refine wpAny_mono (mt_append (X := X.blk (x :: z :: t :: ys) sc cl s1.heap.objs.size s1 (upd H s.heap.objs.size (.lst [])) fp) _ s8 _ H8 (.ref s.heap.objs.size) [y8] (.ref s.heap.objs.size) [u8] (fun _ H9 => H9 = upd H8 s.heap.objs.size (.lst (zs ++ [y8]))) I8 rfl (.cons r8 .nil)
        ⟨_, zs, y8, rfl, rfl, hD8, hz8, rfl⟩) (fun _ s9 ⟨_, H9, I9, _, e9⟩ => ?_) (fun _ _ z => nomatch z)
      subst e9
      exact again (σ8 := []) I9 q8
  exact codeAny_compStart_list loop (T.self X.A 0 _ _ _ st2 loop)
end

/-- [elt for x, z in iter if ..] -/
def tComp3 (K : PySem.W.Frag) (wi : TI) (js : List Nat) (te : TE) : TE := fun σ H Q => wi σ H fun J H1 => CompBy3 K js te σ J H1 fun D H2 => Q (.ref D) H2
section
variable {X : Cx} {elt iter : Expr} {x z t : Str} {ys : List Str} {js : List Nat} {sc : Scope} {px pz pu pt pos : Pos} {tk : Nat} {wi : TI} {te : TE}
theorem pe_comp3 (S : BlkScope3 X.env.scope X.N x z t ys js sc) (hc : X.calm = true) (hi : PI X (.Tuple [.Name x px, .Name z pz, .Name t pu] tk pt) iter wi) (he : ∀ cl C s H ex, PE (X.blk (x :: z :: t :: ys) sc cl C s H ex) elt te)
    (hs : ∀ v, foldedSetIterable iter X.env v = pure v := by intro _; rfl) : PE X (.ListComp elt [⟨.Tuple [.Name x px, .Name z pz, .Name t pu] tk pt, iter, [], 0⟩] sc pos) (tComp3 X.K wi js te) := by
  intro pins s σ H Q I h
  obtain ⟨cl, ecl, h1, h2⟩ := closure_ok (fun y hy hf => I.ok.has y.1 (S.out y hy hf))
  rw [eval_ListComp]
  refine wpAny_comprehension_free (use := none) rfl hs ecl S.kind S.loc (thn (hi pins s σ H _ I h) fun v s1 hv => thn hv fun itv s2 h2' => ?_)
  obtain ⟨it, fp, tn, J, H2, e, I2, T, st2, f2, q2⟩ := h2'
  subst e
  refine comp_block3 (RR := fun acc C => compPost (model X.prog X.w) X.A X.xe none (EP X pins σ Q) acc C) hc I2 S h1 h2 T st2 f2 he q2 ?_
  intro D C oC m s5 H5 I5 F5 ho hns I6 fin
  refine ⟨m, hns _ ho, fun h' hs' => ⟨.ref D, H5, ?_, rfl, fin⟩⟩
  exact I5.turned (t' := s5.toks) (fun b o hb e => hs'.extBut b o hb e) F5.1 F5.2.1 F5.2.2.2.1 F5.2.2.2.2.1 F5.2.2.2.2.2
end
section
theorem comp3_prd {α γ : Type} {K : PySem.W.Frag} {js : List Nat} {te : TE} {σ : St} {H : Hp} {Fin : Addr → Hp → Prop} {a : Addr} (ws : List V) (cs : List α) (fs sn td : α → V) (f : α → γ) (R2 : Hp → V → γ → Prop)
    (mono2 : ∀ H1 H2 v c, TupKeep H1 H2 → R2 H1 v c → R2 H2 v c)
    (hS : SqL K H a ws) (pr : Paired (fun v c => ∃ p, v = .ref p ∧ H p = some (.tup [fs c, sn c, td c])) ws cs)
    (he : ∀ c H', c ∈ cs → Same H H' → ∀ Q2 : VK, (∀ y H4, Same H' H4 → R2 H4 y (f c) → Q2 y H4) → te (blkSt3 js σ (some (fs c)) (some (sn c)) (some (td c))) H' Q2)
    (hn : cs.length ≤ sizeLine)
    (hd : ∀ D us H', H D = none → Same H H' → H' D = some (.lst us) → Paired (R2 H') us (cs.map f) → Fin D H') : CompBy3 K js te σ (Itl K a) H Fin := by
  intro D hD
  have hlen : ws.length = cs.length := prd_len pr
  let Pv : Nat → List V → Hp → Prop := fun i ys H' => Same H H' ∧ H' D = some (.lst ys) ∧ Paired (R2 H') ys ((cs.take i).map f)
  refine ⟨fun i m ys H' => m = cs.length - i ∧ i ≤ cs.length ∧ Pv i ys H', ⟨cs.length, by simp, Nat.zero_le _, Same.new hD, upd_same, by rw [List.take_zero]; exact .nil⟩, ?_⟩
  rintro i m ys H' ⟨rfl, hi, sm, hL, ey⟩
  refine ⟨hL, ?_⟩
  have hS' := sm.seq hS
  by_cases hlt : i < cs.length
  · have hc : cs[i]? = some cs[i] := by simp [hlt]
    obtain ⟨v0, hv0, p, rfl, hp⟩ := prd_get pr hc
    refine .inr ⟨⟨_, _, hS', hv0⟩, Pv (i + 1), fun zs H'' p' => ⟨cs.length - (i + 1), by omega, rfl, hlt, p'⟩, fun v H2 y => ?_⟩
    obtain ⟨rfl, hx2⟩ := y
    have ex : v = .ref p := by
      have := hx2 _ hS'
      rw [hv0] at this
      exact (Option.some.inj this).symm
    subst ex
    refine ⟨p, _, _, _, rfl, SqT.of (sm _ _ hp), he cs[i] _ (List.getElem_mem hlt) sm _ fun y H4 s4 r4 => ?_⟩
    have hL4 : H4 D = some (.lst ys) := s4 _ _ hL
    have tk : TupKeep H4 (upd H4 D (.lst (ys ++ [y]))) := TupKeep.upd fun xs z => by rw [hL4] at z; cases z
    have yl : ys.length = i := by rw [prd_len ey, List.length_map, List.length_take]; omega
    refine ⟨hL4, by omega, (sm.trans s4).upd hD, upd_same, ?_⟩
    rw [List.take_add_one, hc, List.map_append]
    exact prd_append (prd_imp (fun x c r => mono2 _ _ _ _ (s4.tk.trans tk) r) ey) (.cons (mono2 _ _ _ _ tk r4) .nil)
  · have e : i = cs.length := by omega
    subst e
    rw [List.take_length] at ey
    exact .inl ⟨⟨_, hS', by omega⟩, hd D ys H' hD sm hL ey⟩
end
end L2
namespace STab
open PySem PySem.W PyProof.Rows
theorem min_le : ∀ (f n r : Nat), r ≤ 1 → 2 ≤ n → minRun' f n r ≤ n + r
  | 0, n, r, _, _ => by
    have e : minRun' 0 n r = n + r ∨ minRun' 0 n r ≤ n + r := by
      first | exact .inl rfl | exact .inr (Nat.zero_le _)
    omega
  | f + 1, n, r, hr, hn => by
    rw [minRun'_succ]
    split
    · exact Nat.le_refl _
    · have := min_le f (n / 2) (max r (n % 2)) (by omega) (by omega)
      omega
def up (i j : Nat) : Bool := decide (i < j)
theorem up_ord (n : Nat) : Ord n up := ⟨fun i _ => decide_eq_false (by omega), fun i j k _ _ _ h1 h2 => decide_eq_true (by have := of_decide_eq_true h1; have := of_decide_eq_true h2; omega), fun i j _ _ ne h => decide_eq_true (by have := of_decide_eq_false h; omega)⟩
theorem g_range {n i : Nat} (h : i < n) : g (List.toArray (List.range n)) i = i := by simp [g, Array.getD, h]
theorem count_up {n : Nat} (h2 : 2 ≤ n) : run n up (kas_count n (List.toArray (List.range n))) fun r => r = (n, List.toArray (List.range n)) := by
  unfold kas_count
  have P0 : Pm n (List.toArray (List.range n)) := List.Perm.refl _
  refine run_bind _ (run_mono (fun m hm => ?_) _ (asc_run (up_ord n) P0 (n - 1) 1 (Nat.le_refl _) (by omega) (fun i j a b => by omega)))
  obtain ⟨m1, m2, _, m4⟩ := hm
  have e : m = n := by
    rcases m4 with z | z
    · omega
    · by_cases q : m < n
      · rw [g_range q, g_range (by omega)] at z
        have := of_decide_eq_true z
        omega
      · omega
  subst e
  rw [if_pos (by simp)]
  exact rfl
section
variable {prog : Program} {w : World} {A : Around} {E : Value → Shared → Prop} {s : Shared} {κ : SortKind} {it : Array Keyed}
theorem runs_up {n : Nat} {Q : Unit → SortSt → Shared → Prop} (h2 : 2 ≤ n) (hQ : ∀ st', arrOf st' = (List.toArray (List.range n)).map (kas_item it) → failedOf st' = none → Q () st' s)
    (h : (kas_count n (List.toArray (List.range n))).kasWp (kas_cmp prog w A κ it) (fun r s' => s' = s ∧ r = (n, List.toArray (List.range n))) s) : kasC (model prog w) A E sortRuns' Q (kas_st κ it (List.toArray (List.range n))) s := by
  obtain ⟨r, rfl⟩ : ∃ r, n = r + 2 := ⟨n - 2, by omega⟩
  have z0 : (List.toArray (List.range (r + 2))).size = r + 2 := by simp
  have z1 : (arrOf (kas_st κ it (List.toArray (List.range (r + 2))))).size = r + 2 := by
    show ((List.toArray (List.range (r + 2))).map (kas_item it)).size = _
    rw [Array.size_map]
    exact z0
  have mr := min_le (r + 2) (r + 2) 0 (by decide) (by omega)
  rw [sortRuns'_eq]
  refine kasC_bind (kasC_get ?_)
  dsimp only
  simp only [z1]
  generalize minRun' (r + 2) (r + 2) 0 = mi at mr
  refine kasC_bind (kasC_range (?_ : kasC _ _ _ (forIn (0 :: 1 :: List.range' 2 r) _ _) _ _ _))
  refine kasC_cons ?_
  dsimp only
  rw [if_neg (by omega)]
  simp only [Nat.sub_zero, Nat.zero_add]
  refine kasC_bind (kas_count_ (by omega) (by rw [z0]; exact Nat.le_refl _) (fun m p' s' _ _ _ hg => ?_) h)
  obtain ⟨rfl, e⟩ := hg
  cases e
  dsimp only
  rw [if_neg (by omega)]
  refine kasC_bind (kasC_get ?_)
  rw [show ∀ p, (pendingOf (kas_st κ it p)).back? = none from fun _ => rfl]
  dsimp only
  refine kasC_bind (kasC_modify (kasC_pure (?_ : kasC _ _ _ (forIn (1 :: List.range' 2 r) _ _) _ _ _)))
  refine kasC_cons ?_
  dsimp only
  rw [if_pos (Nat.le_refl _)]
  refine kasC_pure ?_
  dsimp only
  refine kasC_bind (kasC_range (?_ : kasC _ _ _ (forIn (0 :: 1 :: List.range' 2 r) _ _) _ _ _))
  refine kasC_cons (kasC_bind (kasC_get ?_))
  rw [if_pos (by exact Nat.le_refl 1)]
  refine kasC_pure ?_
  dsimp only
  exact kasC_pure (hQ _ rfl rfl)
end
open L2
/-- a tuple of ints and texts -/
def TKK (h : Heap) (k : List Key) (a : Addr) : Prop := ∃ o xs n, h.get? a = some o ∧ o.cls = .type "tuple" ∧ o.data = .seq xs n ∧ Vals (k.map kV) xs.toList
theorem tkk_keep {h h' : Heap} {k : List Key} {a : Addr} (t : TKK h k a) (f : ∀ o, h.get? a = some o → h'.get? a = some o) : TKK h' k a := by
  obtain ⟨o, xs, n, h1, h2, h3, h4⟩ := t
  exact ⟨o, xs, n, f o h1, h2, h3, h4⟩
def lexKF (fin : Bool) : List Key → List Key → Bool
  | x :: xs, y :: ys => if x = y then lexKF fin xs ys else ltK x y
  | _, _ => fin
theorem lexKF_is (c : Nat) : ∀ a b : List Key, lexKF (decide (c + a.length < c + b.length)) a b = lexK a b
  | [], [] => by
    show decide (c + 0 < c + 0) = false
    exact decide_eq_false (by omega)
  | [], y :: ys => by
    show decide (c + 0 < c + (ys.length + 1)) = true
    exact decide_eq_true (by omega)
  | x :: xs, [] => by
    show decide (c + (xs.length + 1) < c + 0) = false
    exact decide_eq_false (by omega)
  | x :: xs, y :: ys => by
    show (if x = y then lexKF (decide (c + (xs.length + 1) < c + (ys.length + 1))) xs ys else ltK x y) = if x = y then lexK xs ys else ltK x y
    have := lexKF_is (c + 1) xs ys
    rw [show decide (c + (xs.length + 1) < c + (ys.length + 1)) = decide (c + 1 + xs.length < c + 1 + ys.length) by rw [decide_eq_decide]; omega, this]
def refsK (us : List (List Key × Addr)) : List Value := us.map fun u => Value.ref u.2
section
variable {prog : Program} {w : World} {A : Around} {E : Value → Shared → Prop} {s : Shared}
theorem one_lt_key {b : Bool} {x y : Key} {u v : Value} {Q : Bool → Shared → Prop} (al : alikeK x y = true) (rx : RelV (kV x) u) (ry : RelV (kV y) v) (h : Q (ltK x y) s) : wpAny (model prog w) A (oneLt' b u v) Q E s := by
  cases b with
  | false => exact kat_one _ _ (rcLt_key al rx ry h)
  | true =>
    cases x with
    | inl a =>
      cases y with
      | inl c =>
        obtain ⟨t, rfl⟩ := (show ∃ t, u = Value.int a t from rx)
        obtain ⟨t', rfl⟩ := (show ∃ t, v = Value.int c t from ry)
        exact kat_lt_int h
      | inr c => cases al
    | inr a =>
      cases y with
      | inl c => cases al
      | inr c =>
        obtain ⟨t, rfl⟩ := (show ∃ t, u = Value.str a t from rx)
        obtain ⟨t', rfl⟩ := (show ∃ t, v = Value.str c t from ry)
        exact oneLt_str h
theorem kat_keys {fin : Bool} {Q : Bool → Shared → Prop} : ∀ {ks ls : List Key} {vs ws : List Value} (i : Nat), Vals (ks.map kV) vs → Vals (ls.map kV) ws → alikeL ks ls = true → Q (lexKF fin ks ls) s → KatLex prog w A true fin Q (vs.zip ws) i s
  | [], _, _, _, i, h1, _, _, h => by
    cases h1
    rw [List.zip_nil_left]
    exact kat_nil h
  | _ :: _, [], _, _, i, _, h2, _, h => by
    cases h2
    rw [List.zip_nil_right]
    exact kat_nil h
  | k :: ks, l :: ls, _, _, i, .cons r1 t1, .cons r2 t2, al, h => by
    rw [List.zip_cons_cons]
    have al : (alikeK k l && alikeL ks ls) = true := al
    rw [Bool.and_eq_true] at al
    have he : SeqAt.EqAt A s _ _ (eqV (kV k) (kV l)) := eqAt_V r1 r2 (plain_flat (kV_plain k)) (plain_flat (kV_plain l))
    rw [eqV_key] at he
    refine kat_cons (he prog w _ _ ?_)
    have h : Q (if k = l then lexKF fin ks ls else ltK k l) s := h
    by_cases e : k = l
    · rw [decide_eq_true e]
      rw [if_pos e] at h
      exact kat_yes (kat_keys (i + 1) t1 t2 al.2 h)
    · rw [decide_eq_false e]
      rw [if_neg e] at h
      exact kat_no (one_lt_key al.1 r1 r2 h)
theorem ask_keys {k l : List Key} {a b : Addr} {Q : Bool → Shared → Prop} (hk : TKK s.heap k a) (hl : TKK s.heap l b) (al : alikeL k l = true) (h : Q (lexK k l) s) : wpAny (model prog w) A (keyLt' (tuples' true) (.ref a) (.ref b)) Q E s := by
  obtain ⟨o, xs, n, ho, _, hd, hi⟩ := hk
  obtain ⟨o2, ys, n2, ho2, _, hd2, hi2⟩ := hl
  refine kat_lt ho hd ho2 hd2 (kat_keys 0 hi hi2 al ?_)
  have e1 : k.length = xs.size := by
    have := hi.length
    simp at this
    omega
  have e2 : l.length = ys.size := by
    have := hi2.length
    simp at this
    omega
  have := lexKF_is 0 k l
  rw [Nat.zero_add, Nat.zero_add, e1, e2] at this
  rw [this]
  exact h
/-- a list of tuples that rises stays as it is -/
theorem up_list_sort {a : Addr} {us : List (List Key × Addr)} {n : Nat} {P : PySem.Fin → Shared → Prop} (ho : s.heap.get? a = some (seqObj "list" (refsK us).toArray n)) (h1000 : us.length ≤ 1000) (hi : ∀ u ∈ us, ∃ i r, u.1 = .inl i :: r) (al : ∀ u ∈ us, ∀ v ∈ us, alikeL u.1 v.1 = true)
    (hup : ∀ i j, i < us.length → j < us.length → lexK (us.getD i ([], 0)).1 (us.getD j ([], 0)).1 = up i j) (hT : ∀ u ∈ us, TKK s.heap u.1 u.2)
    (h : P (.done (.ret .none)) { s with heap := sortedHeap s.heap a (refsK us) (refsK us).toArray }) :
    wpAny (model prog w) A (Builtin.«list.sort» ⟨[.ref a], []⟩) P E s := by
  have hl : (refsK us).length = us.length := List.length_map _
  have ha : a < s.heap.objs.size := Heap.lt_size ho
  have nea : ∀ u ∈ us, u.2 ≠ a := fun u hu z => by
    obtain ⟨o, _, _, ho2, hc, _⟩ := hT u hu
    rw [z, ho] at ho2
    cases ho2
    exact absurd (show Value.type "list" = Value.type "tuple" from hc) (by decide)
  rw [list_sort_plain]
  refine wpAny_bind (listItems_at ho rfl ?_)
  refine wpAny_bind (listUpdate_at ho rfl ?_ (by rw [List.size_toArray, hl, sizeLine_eq]; omega) (Nat.zero_le _))
  obtain ⟨e1, ho1⟩ : ∃ e1, (s.heap.update a (Obj.mapSeq fun _ => #[])).get? a = some (seqObj "list" #[] e1) := ⟨_, get?_update_seq ho (fun _ => #[])⟩
  refine wpAny_bind (seqEpoch_at ho1 rfl ?_)
  refine wpAny_bind (wpAny_newTuple ?_ (by show (refsK us).length ≤ _; rw [hl, sizeLine_eq]; omega))
  refine wpAny_bind (wpAny_newList ?_ (Nat.zero_le _))
  refine wpAny_holding ?_
  have ho6 : (((s.heap.update a (Obj.mapSeq fun _ => #[])).push (seqObj "tuple" (refsK us).toArray 0)).push (seqObj "list" #[] 0)).get? a = some (seqObj "list" #[] e1) := by
    rw [Heap.get?_push_ne _ _ _ (by rw [size_push', Heap.size_update]; exact Nat.ne_of_lt (Nat.lt_succ_of_lt ha)), Heap.get?_push_ne _ _ _ (by rw [Heap.size_update]; exact Nat.ne_of_lt ha)]
    exact ho1
  have oth : ∀ b o, b ≠ a → s.heap.get? b = some o → (((s.heap.update a (Obj.mapSeq fun _ => #[])).push (seqObj "tuple" (refsK us).toArray 0)).push (seqObj "list" #[] 0)).get? b = some o := fun b o hb e =>
    Heap.get?_push_of_some _ (Heap.get?_push_of_some _ ((Heap.get?_update_other _ _ (Ne.symm hb)).trans e))
  show wpAny (model prog w) A _ P E { s with heap := ((s.heap.update a (Obj.mapSeq fun _ => #[])).push (seqObj "tuple" (refsK us).toArray 0)).push (seqObj "list" #[] 0) }
  dsimp only
  have hsz : (refsK us).toArray.size = us.length := by rw [List.size_toArray, hl]
  by_cases h2 : (refsK us).toArray.size < 2
  · rw [if_pos h2, if_pos h2]
    refine wpAny_bind (wpAny_pure ?_)
    rw [StateT.run_pure]
    refine wpAny_bind (wpAny_pure ?_)
    dsimp only
    refine wpAny_bind (seqEpoch_at ho6 rfl ?_)
    have ep : (arrOf (SortSt.mk' general' ((refsK us).toArray.zip (refsK us).toArray) #[] 7 none)).map (·.2) = (refsK us).toArray := by
      show ((refsK us).toArray.zip (refsK us).toArray).map (·.2) = _
      apply Array.toList_inj.mp
      simp [List.map_snd_zip]
    rw [ep]
    refine wpAny_bind (listUpdate_at ho6 rfl ?_ (hsz2 := by rw [hsz, sizeLine_eq]; omega))
    simp only [bne_self_eq_false, Bool.false_eq_true, if_false]
    exact wpAny_pure h
  rw [if_neg h2, if_neg h2]
  have h2' : 2 ≤ us.length := by omega
  have tk6 : ∀ u ∈ us, TKK (((s.heap.update a (Obj.mapSeq fun _ => #[])).push (seqObj "tuple" (refsK us).toArray 0)).push (seqObj "list" #[] 0)) u.1 u.2 := fun u hm => tkk_keep (hT u hm) fun o e => oth _ o (nea u hm) e
  have gv : ∀ i, i < us.length → (refsK us).getD i Value.none = .ref (us.getD i ([], 0)).2 := fun i h => by simp [refsK, h]
  have gm : ∀ i, i < us.length → us.getD i ([], 0) ∈ us := fun i h => by
    rw [List.getD_eq_getElem?_getD, List.getElem?_eq_getElem h]
    exact List.getElem_mem _
  have kt : ∀ l : List (List Key × Addr), (∀ u ∈ l, u ∈ us) → ∃ fs, KatTups (((s.heap.update a (Obj.mapSeq fun _ => #[])).push (seqObj "tuple" (refsK us).toArray 0)).push (seqObj "list" #[] 0)) (refsK l) fs ∧ fs.length = l.length ∧ ∀ v ∈ fs, ∃ i t, v = Value.int i t := by
    intro l
    induction l with
    | nil => exact fun _ => ⟨[], KatTups.nil, rfl, fun v hv => by cases hv⟩
    | cons u l ih =>
      intro hs
      obtain ⟨fs, f1, f2, f3⟩ := ih fun v hv => hs v (List.mem_cons_of_mem _ hv)
      have hm := hs u List.mem_cons_self
      obtain ⟨o, xs, k, q1, q2, q3, q4⟩ := tk6 u hm
      obtain ⟨i, r, er⟩ := hi u hm
      rw [er, List.map_cons] at q4
      generalize hxs : xs.toList = l0 at q4
      cases q4 with
      | cons r1 t1 =>
        obtain ⟨t, rfl⟩ := (show ∃ t, _ = Value.int i t from r1)
        have hf : xs[0]? = some (Value.int i t) := by rw [← Array.getElem?_toList, hxs]; rfl
        refine ⟨_ :: fs, KatTups.cons q1 q2 q3 hf f1, by rw [List.length_cons, List.length_cons, f2], fun v hv => ?_⟩
        rcases List.mem_cons.mp hv with e | e
        · exact ⟨i, t, e⟩
        · exact f3 v e
  obtain ⟨fs, kt1, kt2, kt3⟩ := kt us fun u hm => hm
  refine wpAny_bind (kat_kind (T := Value.type "int") kt1 (by omega) (fun v hv => ?_) (by decide) ?_)
  · obtain ⟨i, t, rfl⟩ := kt3 v hv
    exact .now
  have asks : ∀ i j, i < us.length → j < us.length → ∀ C : Bool → Shared → Prop, C (up i j) { s with heap := ((s.heap.update a (Obj.mapSeq fun _ => #[])).push (seqObj "tuple" (refsK us).toArray 0)).push (seqObj "list" #[] 0) } → kas_ask prog w A (tuples' (Value.type "int" != Value.type "tuple")) (refsK us) i j C { s with heap := ((s.heap.update a (Obj.mapSeq fun _ => #[])).push (seqObj "tuple" (refsK us).toArray 0)).push (seqObj "list" #[] 0) } := by
    intro i j hi hj C hC
    unfold kas_ask
    rw [gv i hi, gv j hj]
    exact ask_keys (s := { s with heap := ((s.heap.update a (Obj.mapSeq fun _ => #[])).push (seqObj "tuple" (refsK us).toArray 0)).push (seqObj "list" #[] 0) }) (tk6 _ (gm i hi)) (tk6 _ (gm j hj)) (al _ (gm i hi) _ (gm j hj)) (by rw [hup i j hi hj]; exact hC)
  have rw1 := run_wp (s := { s with heap := ((s.heap.update a (Obj.mapSeq fun _ => #[])).push (seqObj "tuple" (refsK us).toArray 0)).push (seqObj "list" #[] 0) }) asks _ (count_up h2')
  rw [kat_ask_eq (vs := refsK us) rfl] at rw1
  have est : SortSt.mk' (tuples' (Value.type "int" != Value.type "tuple")) ((refsK us).toArray.zip (refsK us).toArray) #[] 7 none = kas_st (tuples' (Value.type "int" != Value.type "tuple")) ((refsK us).toArray.zip (refsK us).toArray) (List.toArray (List.range us.length)) := by
    have e := kas_range ((refsK us).toArray.zip (refsK us).toArray)
    rw [show ((refsK us).toArray.zip (refsK us).toArray).size = us.length by simp [hl]] at e
    show _ = SortSt.mk' _ ((List.toArray (List.range us.length)).map (kas_item _)) #[] 7 none
    rw [e]
  have go := runs_up (E := E) (Q := fun _ st' s' => arrOf st' = (List.toArray (List.range us.length)).map (kas_item ((refsK us).toArray.zip (refsK us).toArray)) ∧ failedOf st' = none ∧ s' = { s with heap := ((s.heap.update a (Obj.mapSeq fun _ => #[])).push (seqObj "tuple" (refsK us).toArray 0)).push (seqObj "list" #[] 0) }) h2' (fun st' a1 a2 => ⟨a1, a2, rfl⟩) rw1
  rw [← est] at go
  refine wpAny_bind (wpAny_mono go ?_ fun _ _ e => e)
  rintro ⟨⟨⟩, st'⟩ s' ⟨har, hf, rfl⟩
  dsimp only
  have hout := kat_snds (ks := refsK us) (vs := refsK us) rfl har
  have hus : ((List.toArray (List.range us.length)).toList.map fun i => (refsK us).getD i Value.none) = refsK us := by
    refine List.ext_getElem (by simp [refsK]) fun i h1 h2 => ?_
    have hi : i < us.length := by simpa [refsK] using h2
    simp [refsK, hi]
  rw [hout, hus]
  refine wpAny_bind (seqEpoch_at ho6 rfl ?_)
  refine wpAny_bind (listUpdate_at ho6 rfl ?_ (hsz2 := by rw [hsz, sizeLine_eq]; omega))
  rw [hf]
  simp only [bne_self_eq_false, Bool.false_eq_true, if_false]
  exact wpAny_pure h
theorem sorted_up {v : Value} {us : List (List Key × Addr)} {Q : Value → Shared → Prop} (h1000 : us.length ≤ 1000) (hi : ∀ u ∈ us, ∃ i r, u.1 = .inl i :: r) (al : ∀ u ∈ us, ∀ v ∈ us, alikeL u.1 v.1 = true)
    (hup : ∀ i j, i < us.length → j < us.length → lexK (us.getD i ([], 0)).1 (us.getD j ([], 0)).1 = up i j) (hT : ∀ u ∈ us, TKK s.heap u.1 u.2)
    (hc : ∀ (Q' : List Value → Shared → Prop) (E' : Value → Shared → Prop), (∀ s' : Shared, (∀ b o, s.heap.get? b = some o → s'.heap.get? b = some o) → s'.gens = s.gens → s'.os = s.os → Q' (refsK us) s') → wpAny (model prog w) A.in1 (collect v) Q' E' s)
    (h : ∀ (s1 : Shared) (h2 : Heap) (n : Nat), (∀ b o, s.heap.get? b = some o → s1.heap.get? b = some o) → s1.gens = s.gens → s1.os = s.os → (∀ b o, s1.heap.get? b = some o → h2.get? b = some o) →
      h2.get? s1.heap.objs.size = some { cls := .type "list", data := .seq (refsK us).toArray n } → Q (.ref s1.heap.objs.size) { s1 with heap := h2 }) :
    wpAny (model prog w) A (call (.builtin "sorted") [v]) Q E s := by
  refine Calls.call_function_entry kind_sorted plain_sorted entry_sorted (args_sorted1 _) ?_
  unfold Builtin.«sorted»
  refine wpAny_bind (m := checkCount "sorted" 1 1 _) (wpAny_pure ?_)
  refine wpAny_bind (hc _ _ fun s1 k1 g1 o1 => ?_)
  refine wpAny_bind (wpAny_newList ?_ (by rw [show (refsK us).length = us.length from List.length_map _, sizeLine_eq]; omega))
  have gL : (s1.heap.push (seqObj "list" (refsK us).toArray 0)).get? s1.heap.objs.size = some (seqObj "list" (refsK us).toArray 0) := Heap.get?_push_size _ rfl
  refine wpAny_bind (wpAny_holding (wpAny_call_entry slot_list_sort ⟨_, gL, rfl⟩ entry_list_sort (up_list_sort gL h1000 hi al hup (fun u hm => tkk_keep (hT u hm) fun o e => Heap.get?_push_of_some _ (k1 _ o e)) ⟨_, rfl, ?_⟩) (args_list_sort _)))
  refine wpAny_pure ⟨_, rfl, ?_⟩
  obtain ⟨e, ge⟩ := sortedHeap_at (out := (refsK us).toArray) gL
  refine h s1 _ e k1 g1 o1 (fun b o q1 => ?_) ge
  have lb := Heap.lt_size q1
  rw [sortedHeap_old (Nat.ne_of_lt lb) (by rw [Heap.size_push]; exact Nat.lt_succ_of_lt lb)]
  exact Heap.get?_push_of_some _ q1
end
theorem ltK_not {x y : Key} (h : ltK x y = true) : ltK y x = false := by
  cases x with
  | inl a =>
    cases y with
    | inl b =>
      have h : a < b := of_decide_eq_true h
      exact decide_eq_false (by omega)
    | inr b => cases h
  | inr a =>
    cases y with
    | inl b => cases h
    | inr b =>
      have h : a.cps.toList < b.cps.toList := of_decide_eq_true h
      exact decide_eq_false (List.lt_asymm h)
theorem lexK_self : ∀ x : List Key, lexK x x = false
  | [] => rfl
  | a :: x => by
    show (if a = a then lexK x x else ltK a a) = false
    rw [if_pos rfl]
    exact lexK_self x
theorem lexK_not : ∀ {x y : List Key}, lexK x y = true → lexK y x = false
  | [], [], h => by cases h
  | [], _ :: _, _ => rfl
  | _ :: _, [], h => by cases h
  | a :: x, b :: y, h => by
    have h : (if a = b then lexK x y else ltK a b) = true := h
    show (if b = a then lexK y x else ltK b a) = false
    by_cases e : a = b
    · rw [if_pos e] at h
      rw [if_pos e.symm]
      exact lexK_not h
    · rw [if_neg e] at h
      rw [if_neg (fun z => e z.symm)]
      exact ltK_not h
theorem up_of {us : List (List Key × Addr)} (h : us.Pairwise fun u v => lexK u.1 v.1 = true) : ∀ i j, i < us.length → j < us.length → lexK (us.getD i ([], 0)).1 (us.getD j ([], 0)).1 = up i j := fun i j hi hj => by
  have ei : us.getD i ([], 0) = us[i] := by simp [hi]
  have ej : us.getD j ([], 0) = us[j] := by simp [hj]
  rw [ei, ej]
  rcases Nat.lt_trichotomy i j with z | z | z
  · rw [List.pairwise_iff_getElem.mp h i j hi hj z]
    exact (decide_eq_true z).symm
  · subst z
    rw [lexK_self]
    exact (decide_eq_false (Nat.lt_irrefl i)).symm
  · rw [lexK_not (List.pairwise_iff_getElem.mp h j i hj hi z)]
    exact (decide_eq_false (by omega)).symm
end STab
namespace L2
open PySem PySem.Spec PyProof.Rows
section
variable {X : Cx}
def refsVK (us : List (List Key × Addr)) : List V := us.map fun u => V.ref u.2
theorem valsK : ∀ {us : List (List Key × Addr)} {its : List Value}, Vals (refsVK us) its → its = STab.refsK us
  | [], _, .nil => rfl
  | u :: us, _, .cons r t => by
    cases r
    rw [valsK t]
    rfl
theorem refsK_vals : ∀ us : List (List Key × Addr), Vals (refsVK us) (STab.refsK us)
  | [] => .nil
  | _ :: us => .cons rfl (refsK_vals us)
def rSortUp : List V → Hp → VK → Prop := fun xs H Q => ∃ (p : Addr) (us : List (List Key × Addr)), xs = [.ref p] ∧ H p = some (.lst (refsVK us)) ∧ (∀ u ∈ us, H u.2 = some (.tup (u.1.map kV))) ∧ us.length ≤ 1000 ∧ (∀ u ∈ us, ∃ i r, u.1 = .inl i :: r) ∧ (∀ u ∈ us, ∀ v ∈ us, alikeL u.1 v.1 = true) ∧ us.Pairwise (fun u v => lexK u.1 v.1 = true) ∧
    ∀ l, H l = none → Q (.ref l) (upd H l (.lst (refsVK us)))
/-- sorted of a list of tuples of ints and texts that rises already -/
theorem call_sorted_up : CallR X (.builtin "sorted") rSortUp := by
  intro pins s σ H xs us0 Q I r h
  obtain ⟨p, us, rfl, hp, ht, hz, hi, al, up, q⟩ := h
  obtain ⟨u, rfl, ru⟩ := vals1 r
  cases ru
  refine STab.sorted_up (us := us) hz hi al (STab.up_of up) (fun u hm => ?_) (fun Q' E' k => ?_) fun s1 h2 n k1 g1 o1 k2 gL => ?_
  · obtain ⟨its, rv, ⟨o, ho, hc, n, hd⟩, _⟩ := I.tuple (SqT.of (ht u hm))
    exact ⟨o, its.toArray, n, ho, hc, hd, by simpa using rv⟩
  · obtain ⟨its, rv, pl, hz⟩ := I.list (SqL.of hp)
    obtain ⟨o, n, ho, hcl, _, hd⟩ := pl
    refine wpAny_collect_seq p (.inl rfl) ho hcl hd (fun h' kk => ?_) (by rw [List.size_toArray, ← rv.length]; exact hz)
    have ei : its = STab.refsK us := valsK rv
    rw [ei]
    exact k _ kk rfl rfl
  · have I1 := I.keptAll k1 g1 o1
    have hf : H s1.heap.objs.size = none := I1.hok.fresh (Nat.le_refl _)
    refine ⟨.ref s1.heap.objs.size, _, I1.laid (o := .lst (refsVK us)) (t' := s1.toks) k2 (Nat.le_refl _) ⟨?_, STab.refsK us, n, refsK_vals us, gL⟩, rfl, q _ hf⟩
    rw [show (refsVK us).length = us.length from List.length_map _]
    exact Nat.le_trans hz (by decide)
end
end L2
local macro_rules | `(tactic| walk_at "rq") => `(tactic| first | assumption | exact L2.SqL.of (by assumption) | exact L2.SqT.of (by assumption) | exact L2.Same.seq (by assumption) (by assumption) | exact L2.Same.seqT (by assumption) (by assumption))
local macro_rules | `(tactic| walk_at "rs") => `(tactic| first | decide | (dsimp only; omega) | assumption | exact My.flat_ints _ | exact My.plain_ints _ | exact ⟨by decide, by decide⟩ | exact ⟨by omega, by omega⟩ | exact .inl ⟨by decide, by decide⟩ | exact .inr ⟨by decide, by decide⟩ | exact .inl ⟨by omega, by omega⟩ | exact .inr ⟨by omega, by omega⟩)
local macro_rules | `(tactic| walk_at "r1") => `(tactic| first | refine ⟨_, rfl, ?_⟩ | refine ⟨_, _, rfl, rfl, ?_⟩ | refine ⟨rfl, ?_⟩ | refine ⟨by walk_at "rs", ?_⟩ | refine ⟨_, _, rfl, .inl (by walk_at "rq"), ?_⟩ | refine ⟨_, _, rfl, .inr (by walk_at "rq"), ?_⟩ | refine ⟨_, _, _, _, rfl, rfl, by walk_at "rq", by first | assumption | rfl, ?_⟩)
local macro_rules | `(tactic| walk_at "rd") => `(tactic| repeat walk_at "r1")
namespace My
open PySem L2
def top (i : Nat) : Stmt := PySem.Challenge.pw_tonemirror_k26_rules.main.body.getD i (.Pass ⟨0, 0, 0, 0⟩)

def wS (u : Bool) : Str := match u with
  | true => "up"
  | false => "down"
theorem wS_up (u : Bool) : decide (V.str (wS u) = V.str "up") = u := by cases u <;> decide +kernel
theorem wS_down (u : Bool) : decide (V.str (wS u) = V.str "down") = !u := by cases u <;> decide +kernel
theorem wS_eq (u v : Bool) : decide (V.str (wS u) = V.str (wS v)) = (u == v) := by cases u <;> cases v <;> decide +kernel

/-- what a letter makes of a chord: a, b, c are 97, 98, 99 -/
def ltr (n x y : Int) (c : Nat) (k : Int × Bool) : Int × Bool := ((k.1 + (if c = 98 then (if k.2 then x else -x) else if c = 99 then (if k.2 then -y else y) else 0)) % n, !k.2)
def wlk (n x y : Int) (w : List Nat) (k : Int × Bool) : Int × Bool := w.foldl (fun k c => ltr n x y c k) k
theorem sgn_b {c : Nat} (h : c = 97 ∨ c = 98 ∨ c = 99) : decide (V.str ⟨#[c]⟩ = V.str "b") = decide (c = 98) := by
  rcases h with rfl | rfl | rfl <;> decide +kernel
theorem sgn_c {c : Nat} (h : c = 97 ∨ c = 98 ∨ c = 99) : decide (V.str ⟨#[c]⟩ = V.str "c") = decide (c = 99) := by
  rcases h with rfl | rfl | rfl <;> decide +kernel
theorem sgn_a {c : Nat} (h : c = 97 ∨ c = 98 ∨ c = 99) : decide (V.str ⟨#[c]⟩ = V.str "a") = decide (c = 97) := by
  rcases h with rfl | rfl | rfl <;> decide +kernel
abbrev chd (k : Int × Bool) : List V := [.int k.1, .str (wS k.2)]

theorem ltr_b {n : Int} (hn : 0 < n) (x y : Int) (c : Nat) (k : Int × Bool) : 0 ≤ (ltr n x y c k).1 ∧ (ltr n x y c k).1 < n := ⟨mod_lo _ hn, mod_hi _ hn⟩
theorem wlk_app (n x y : Int) (w v : List Nat) (k : Int × Bool) : wlk n x y (w ++ v) k = wlk n x y v (wlk n x y w k) := List.foldl_append
theorem wlk_b {n x y : Int} (hn : 0 < n) : ∀ {w : List Nat} {k : Int × Bool}, (0 ≤ k.1 ∧ k.1 < n) → 0 ≤ (wlk n x y w k).1 ∧ (wlk n x y w k).1 < n
  | [], _, h => h
  | c :: w, k, _ => wlk_b (w := w) hn (ltr_b hn x y c k)
theorem ascii_w {w : List Nat} (h : ∀ c ∈ w, c = 97 ∨ c = 98 ∨ c = 99) : (⟨w.toArray⟩ : Str).cps.all (· < 128) = true := by
  rw [List.all_toArray, List.all_eq_true]
  intro c hc
  exact decide_eq_true (by rcases h c hc with e | e | e <;> omega)

abbrev ckey (k : Int × Bool) : List Key := [.inl k.1, .inr (wS k.2)]
theorem ckey_inj {k k' : Int × Bool} (h : ckey k = ckey k') : k = k' := by
  obtain ⟨r, u⟩ := k
  obtain ⟨r', u'⟩ := k'
  have h1 : (Sum.inl r : Key) = .inl r' := (List.cons.inj h).1
  have h2 : (Sum.inr (wS u) : Key) = .inr (wS u') := (List.cons.inj (List.cons.inj h).2).1
  cases h1
  have h3 : wS u = wS u' := Sum.inr.inj h2
  have h4 : (u == u') = true := by
    rw [← wS_eq, h3]
    exact decide_eq_true rfl
  rw [beq_iff_eq.mp h4]
abbrev ES := List ((Int × Bool) × List Nat)
def KEs (kvs : KX) (es : ES) : Prop := kvs.map (fun q => (q.1, q.2.2)) = es.map (fun e => (ckey e.1, V.str ⟨e.2.toArray⟩))
theorem kes_len {kvs : KX} {es : ES} (h : KEs kvs es) : kvs.length = es.length := by
  have := congrArg List.length h
  simpa using this
theorem kes_both : ∀ {kvs : KX} {es : ES}, KEs kvs es → (es.map (·.1)).Nodup → (∀ e ∈ es, atX kvs (ckey e.1) = some (.str ⟨e.2.toArray⟩)) ∧ ∀ k, (∀ e ∈ es, e.1 ≠ k) → atX kvs (ckey k) = none
  | [], [], _, _ => ⟨(fun e he => nomatch he), fun _ _ => rfl⟩
  | [], _ :: _, h, _ => nomatch h
  | _ :: _, [], h, _ => nomatch h
  | q :: kvs, e :: es, h, nd => by
    obtain ⟨h1, h2⟩ := List.cons.inj (show (q.1, q.2.2) :: kvs.map (fun q => (q.1, q.2.2)) = (ckey e.1, V.str ⟨e.2.toArray⟩) :: es.map _ from h)
    have hk : q.1 = ckey e.1 := congrArg (·.1) h1
    have hv : q.2.2 = V.str ⟨e.2.toArray⟩ := congrArg (·.2) h1
    rw [List.map_cons, List.nodup_cons] at nd
    obtain ⟨i1, i2⟩ := kes_both h2 nd.2
    have hit : ∀ kvs : KX, atX (q :: kvs) (ckey e.1) = some (.str ⟨e.2.toArray⟩) := fun kvs => by
      unfold atX
      rw [List.find?_cons_of_pos (by rw [hk]; exact decide_eq_true rfl), Option.map_some, hv]
    have miss : ∀ (kvs : KX) (k : Int × Bool), k ≠ e.1 → atX (q :: kvs) (ckey k) = atX kvs (ckey k) := fun kvs k hk' => by
      unfold atX
      rw [List.find?_cons_of_neg (by rw [hk]; exact fun z => hk' (ckey_inj (of_decide_eq_true z)).symm)]
    refine ⟨fun e' he' => ?_, fun k hk' => ?_⟩
    · rcases List.mem_cons.mp he' with rfl | he'
      · exact hit _
      · rw [miss _ _ fun z => nd.1 (by rw [← z]; exact List.mem_map.mpr ⟨e', he', rfl⟩)]
        exact i1 e' he'
    · rw [miss _ _ fun z => hk' e (List.mem_cons_self ..) z.symm]
      exact i2 k fun e' he' => hk' e' (List.mem_cons_of_mem _ he')
theorem kes_new {kvs : KX} {es : ES} (h : KEs kvs es) (k : Int × Bool) (w : List Nat) (b : Addr) : KEs (kvs ++ [(ckey k, b, V.str ⟨w.toArray⟩)]) (es ++ [(k, w)]) := by
  unfold KEs at *
  rw [List.map_append, List.map_append, h]
  rfl
/-- the chord of the wheel that a letter makes, the letter behind -/
abbrev lst3 (n x y : Int) : (Int × Bool) → Nat → Int × Bool := fun k c => ltr n x y c k
theorem bf_bound {n x y : Int} (hn : 0 < n) (n24 : n ≤ 24) {es : ES} {i j : Nat} (b : Bf (lst3 n x y) (0, true) es i j) : es.length ≤ 48 ∧ ∀ e ∈ es, 0 ≤ e.1.1 ∧ e.1.1 < n := by
  have rg : ∀ e ∈ es, 0 ≤ e.1.1 ∧ e.1.1 < n := fun e he => by
    rw [← b.wk e he]
    exact wlk_b (x := x) (y := y) (w := e.2) (k := (0, true)) hn ⟨by show (0 : Int) ≤ 0; decide, hn⟩
  refine ⟨?_, rg⟩
  have nd : ((es.map (·.1)).map fun k : Int × Bool => 2 * k.1.toNat + (if k.2 then 1 else 0)).Nodup := by
    rw [List.nodup_iff_pairwise_ne, List.pairwise_map]
    refine List.Pairwise.imp_of_mem (fun {a c} ha hc ne => ?_) (List.nodup_iff_pairwise_ne.mp b.inj)
    obtain ⟨e, he, rfl⟩ := List.mem_map.mp ha
    obtain ⟨e', he', rfl⟩ := List.mem_map.mp hc
    have r1 := rg e he
    have r2 := rg e' he'
    intro z
    refine ne (Prod.ext ?_ ?_)
    · split at z <;> split at z <;> omega
    · cases h1 : e.1.2 <;> cases h2 : e'.1.2 <;> rw [h1, h2] at z <;> simp at z <;> first | rfl | omega
  have := nodup_below 48 nd fun x hx => by
    obtain ⟨k, hk, rfl⟩ := List.mem_map.mp hx
    obtain ⟨e, he, rfl⟩ := List.mem_map.mp hk
    have := rg e he
    split <;> omega
  simpa using this
/-- a value that is the chord of an entry -/
def ChR (K : PySem.W.Frag) (H : Hp) (v : V) (e : (Int × Bool) × List Nat) : Prop := ∃ a, v = .ref a ∧ SqT K H a (chd e.1)
theorem chr_mono {K : PySem.W.Frag} {H H' : Hp} (t : TK K H H') {ws : List V} {es : ES} (h : Paired (ChR K H) ws es) : Paired (ChR K H') ws es := prd_imp (fun _ _ ⟨a, e, s⟩ => ⟨a, e, t _ _ s⟩) h
/-- a search's dict and its line of chords -/
structure QInv (w : World) (K : PySem.W.Frag) (H : Hp) (d r : Addr) (B : Nat) (kvs : KX) (es : ES) (vs : List V) (G : Hp) : Prop where
  sm : Same H G
  dd : G d = some (dX w d kvs)
  ok : KeysOk K G kvs
  ke : KEs kvs es
  rr : G r = some (.lst vs)
  vp : Paired (ChR K G) vs (es.drop B)
section
variable {w : World} {K : PySem.W.Frag} {H : Hp} {d r : Addr} {B : Nat} {kvs : KX} {es : ES} {vs : List V} {G G1 : Hp}
theorem QInv.same (I : QInv w K H d r B kvs es vs G) (s : Same G G1) : QInv w K H d r B kvs es vs G1 := ⟨I.sm.trans s, s _ _ I.dd, I.ok.mono (TK.same s), I.ke, s _ _ I.rr, chr_mono (TK.same s) I.vp⟩
theorem QInv.ne (I : QInv w K H d r B kvs es vs G) : r ≠ d := fun z => by
  have h := I.rr
  rw [z, I.dd] at h
  cases h
theorem QInv.put (I : QInv w K H d r B kvs es vs G) (d0 : H d = none) (r0 : H r = none) (hB : B ≤ es.length) {f : Addr} {k : Int × Bool} {wd : List Nat} (hf : SqT K G f (chd k)) (hnone : atX kvs (ckey k) = none) :
    upd G d (dX w d (putX kvs (ckey k) f (.str ⟨wd.toArray⟩))) r = some (.lst vs) ∧ QInv w K H d r B (kvs ++ [(ckey k, f, .str ⟨wd.toArray⟩)]) (es ++ [(k, wd)]) (vs ++ [.ref f]) (upd (upd G d (dX w d (putX kvs (ckey k) f (.str ⟨wd.toArray⟩)))) r (.lst (vs ++ [.ref f]))) ∧
      TK K G (upd (upd G d (dX w d (putX kvs (ckey k) f (.str ⟨wd.toArray⟩)))) r (.lst (vs ++ [.ref f]))) ∧ ∀ a ys, a ≠ r → G a = some (.lst ys) → upd (upd G d (dX w d (putX kvs (ckey k) f (.str ⟨wd.toArray⟩)))) r (.lst (vs ++ [.ref f])) a = some (.lst ys) := by
  rw [putX_new hnone]
  have t1 : TK K G (upd G d (dX w d (kvs ++ [(ckey k, f, .str ⟨wd.toArray⟩)]))) := TK.updX I.dd
  have r1 : upd G d (dX w d (kvs ++ [(ckey k, f, .str ⟨wd.toArray⟩)])) r = some (.lst vs) := by rw [upd_ne I.ne]; exact I.rr
  have d1 : upd G d (dX w d (kvs ++ [(ckey k, f, .str ⟨wd.toArray⟩)])) d = some (dX w d (kvs ++ [(ckey k, f, .str ⟨wd.toArray⟩)])) := upd_same
  have s1 : Same H (upd G d (dX w d (kvs ++ [(ckey k, f, .str ⟨wd.toArray⟩)]))) := I.sm.upd d0
  have o1 : ∀ a ys, G a = some (.lst ys) → upd G d (dX w d (kvs ++ [(ckey k, f, .str ⟨wd.toArray⟩)])) a = some (.lst ys) := fun a ys e => by
    have ne : a ≠ d := fun z => by
      rw [z, I.dd] at e
      cases e
    rw [upd_ne ne]
    exact e
  generalize upd G d (dX w d (kvs ++ [(ckey k, f, .str ⟨wd.toArray⟩)])) = G2 at *
  have t2 : TK K G2 (upd G2 r (.lst (vs ++ [.ref f]))) := TK.updL r1
  have T := t1.trans t2
  have hf3 := T _ _ hf
  refine ⟨r1, ⟨s1.upd r0, by rw [upd_ne (Ne.symm I.ne)]; exact d1, ?_, kes_new I.ke k wd f, upd_same, ?_⟩, T, fun a ys ne e => by rw [upd_ne ne]; exact o1 a ys e⟩
  · intro q hq
    rcases List.mem_append.mp hq with z | z
    · exact T _ _ (I.ok q z)
    · rw [List.mem_singleton.mp z]
      exact hf3
  · rw [List.drop_append_of_le_length hB]
    exact prd_append (chr_mono T I.vp) (.cons ⟨f, rfl, hf3⟩ .nil)
end
theorem abc_at {i c : Nat} (h : ("abc" : Str).cps[i]? = some c) : i < 3 ∧ c = 97 + i := by
  have e : ("abc" : Str).cps = #[97, 98, 99] := by decide +kernel
  rw [e] at h
  match i, h with
  | 0, h => exact ⟨by decide, (Option.some.inj h).symm⟩
  | 1, h => exact ⟨by decide, (Option.some.inj h).symm⟩
  | 2, h => exact ⟨by decide, (Option.some.inj h).symm⟩
  | _ + 3, h => cases h
theorem abc_size : ("abc" : Str).cps.size = 3 := by decide +kernel
theorem str_app (w : List Nat) (cc : Nat) : ((⟨w.toArray⟩ : Str) ++ (⟨#[cc]⟩ : Str)) = ⟨(w ++ [cc]).toArray⟩ := Str.ext' (by rw [Str.cps_append]; simp)

/-- the found word of a chord -/
def bst (es : ES) (k : Int × Bool) : List Nat := ((es.find? fun e => decide (e.1 = k)).map (·.2)).getD []
theorem bst_of {st : (Int × Bool) → Nat → Int × Bool} {k0 : Int × Bool} {es : ES} {i j : Nat} (b : Bf st k0 es i j) {e : (Int × Bool) × List Nat} (he : e ∈ es) : bst es e.1 = e.2 := by
  unfold bst
  cases h : es.find? fun e' => decide (e'.1 = e.1) with
  | none =>
    have := List.find?_eq_none.mp h e he
    simp at this
  | some e' =>
    have h1 := List.find?_some h
    have h2 := List.mem_of_find?_eq_some h
    rw [b.uniq h2 he (of_decide_eq_true h1)]
    rfl
/-- what letters make of a found word: left sides that are not the found words themselves, with these -/
def rl1 (n x y : Int) (es : ES) (e : (Int × Bool) × List Nat) (cs : List Nat) : List (List Nat × List Nat) := (cs.filter fun c => !decide (bst es (lst3 n x y e.1 c) = e.2 ++ [c])).map fun c => (e.2 ++ [c], bst es (lst3 n x y e.1 c))
def rls (n x y : Int) (es fs : ES) : List (List Nat × List Nat) := fs.flatMap fun e => rl1 n x y es e [97, 98, 99]
def RuleR (H : Hp) (v : V) (p : List Nat × List Nat) : Prop := ∃ r, v = .ref r ∧ H r = some (.tup [.str ⟨p.1.toArray⟩, .str ⟨p.2.toArray⟩])
theorem rule_mono {H H' : Hp} (t : TupKeep H H') {ws : List V} {ps : List (List Nat × List Nat)} (h : Paired (RuleR H) ws ps) : Paired (RuleR H') ws ps := prd_imp (fun _ _ ⟨r, e, z⟩ => ⟨r, e, t _ _ z⟩) h
theorem rl1_len (n x y : Int) (es : ES) (e : (Int × Bool) × List Nat) (cs : List Nat) : (rl1 n x y es e cs).length ≤ cs.length := by
  unfold rl1
  rw [List.length_map]
  exact List.length_filter_le _ _
theorem rls_len (n x y : Int) (es : ES) : ∀ fs : ES, (rls n x y es fs).length ≤ 3 * fs.length
  | [] => Nat.le_refl _
  | e :: fs => by
    show (rl1 n x y es e [97, 98, 99] ++ rls n x y es fs).length ≤ 3 * (fs.length + 1)
    rw [List.length_append]
    have a := rl1_len n x y es e [97, 98, 99]
    have b := rls_len n x y es fs
    have c : [97, 98, 99].length = 3 := rfl
    omega

def TriR (H : Hp) (v : V) (p : List Nat × List Nat) : Prop := ∃ r, v = .ref r ∧ H r = some (.tup [.int (p.1.length : Int), .str ⟨p.1.toArray⟩, .str ⟨p.2.toArray⟩])
theorem tri_mono {H H' : Hp} (t : TupKeep H H') {ws : List V} {ps : List (List Nat × List Nat)} (h : Paired (TriR H) ws ps) : Paired (TriR H') ws ps := prd_imp (fun _ _ ⟨r, e, z⟩ => ⟨r, e, t _ _ z⟩) h
def tkey (p : List Nat × List Nat) : List Key := [.inl (p.1.length : Int), .inr ⟨p.1.toArray⟩, .inr ⟨p.2.toArray⟩]
theorem tri_us {H : Hp} : ∀ {ws : List V} {ps : List (List Nat × List Nat)}, Paired (TriR H) ws ps → ∃ us : List (List Key × Addr), ws = refsVK us ∧ us.map (·.1) = ps.map tkey ∧ ∀ u ∈ us, H u.2 = some (.tup (u.1.map kV))
  | _, _, .nil => ⟨[], rfl, rfl, fun u hu => by cases hu⟩
  | _, _, .cons (b := p) ⟨r, e, h⟩ t => by
    obtain ⟨us, e1, e2, e3⟩ := tri_us t
    refine ⟨(tkey p, r) :: us, ?_, ?_, fun u hu => ?_⟩
    · rw [e, e1]; rfl
    · rw [List.map_cons, e2]; rfl
    · rcases List.mem_cons.mp hu with z | z
      · rw [z]; exact h
      · exact e3 u z
theorem tkey_lt {p q : List Nat × List Nat} (h : Sl p.1 q.1) : lexK (tkey p) (tkey q) = true := by
  have ne : p.1 ≠ q.1 := fun z => by
    rw [z] at h
    rcases h with h | ⟨_, h⟩
    · exact absurd h (Nat.lt_irrefl _)
    · exact absurd h (List.lt_irrefl _)
  show (if (Sum.inl (p.1.length : Int) : Key) = Sum.inl (q.1.length : Int) then (if (Sum.inr ⟨p.1.toArray⟩ : Key) = Sum.inr ⟨q.1.toArray⟩ then lexK [Sum.inr ⟨p.2.toArray⟩] [Sum.inr ⟨q.2.toArray⟩] else decide (p.1.toArray.toList < q.1.toArray.toList)) else decide ((p.1.length : Int) < (q.1.length : Int))) = true
  rcases h with h | ⟨l, h⟩
  · rw [if_neg (fun z => by have := Sum.inl.inj z; omega)]
    exact decide_eq_true (by omega)
  · rw [if_pos (by rw [l]), if_neg (fun z => ne (by have := congrArg Str.cps (Sum.inr.inj z); simpa using this))]
    exact decide_eq_true (by simpa using h)
theorem sl_app2 {u v : List Nat} (h : Sl u v) (c d : Nat) : Sl (u ++ [c]) (v ++ [d]) := by
  rcases h with h | ⟨l, h⟩
  · exact .inl (by rw [List.length_append, List.length_append]; exact Nat.add_lt_add_right h 1)
  · exact .inr ⟨by rw [List.length_append, List.length_append, l]; rfl, sl_lt_app c d l h⟩
theorem lt_last : ∀ (u : List Nat) {c d : Nat}, c < d → u ++ [c] < u ++ [d]
  | [], c, d, h => by
    show [c] < [d]
    exact List.Lex.rel h
  | a :: u, c, d, h => by
    show a :: (u ++ [c]) < a :: (u ++ [d])
    exact List.Lex.cons (lt_last u h)
theorem sl_last2 (u : List Nat) {c d : Nat} (h : c < d) : Sl (u ++ [c]) (u ++ [d]) := .inr ⟨by rw [List.length_append, List.length_append]; rfl, lt_last u h⟩
theorem rl1_mem {n x y : Int} {es : ES} {e : (Int × Bool) × List Nat} {cs : List Nat} {p : List Nat × List Nat} (h : p ∈ rl1 n x y es e cs) : ∃ c ∈ cs, p.1 = e.2 ++ [c] := by
  unfold rl1 at h
  obtain ⟨c, hc, rfl⟩ := List.mem_map.mp h
  exact ⟨c, (List.mem_filter.mp hc).1, rfl⟩
theorem rls_up2 {st : (Int × Bool) → Nat → Int × Bool} {k0 : Int × Bool} {n x y : Int} {es : ES} (b : Bf st k0 es es.length 0) : (rls n x y es es).Pairwise fun p q => Sl p.1 q.1 := by
  unfold rls
  rw [List.pairwise_flatMap]
  refine ⟨fun e _ => ?_, ?_⟩
  · unfold rl1
    rw [List.pairwise_map]
    have : ([97, 98, 99] : List Nat).Pairwise (· < ·) := by decide
    exact (this.filter _).imp fun h => sl_last2 e.2 h
  · refine (List.pairwise_map.mp b.up).imp fun {e f} h => ?_
    intro p hp q hq
    obtain ⟨c, _, e1⟩ := rl1_mem hp
    obtain ⟨d, _, e2⟩ := rl1_mem hq
    rw [e1, e2]
    exact sl_app2 h c d
theorem tri_up {ps : List (List Nat × List Nat)} (h : ps.Pairwise fun p q => Sl p.1 q.1) {us : List (List Key × Addr)} (e : us.map (·.1) = ps.map tkey) : us.Pairwise fun u v => lexK u.1 v.1 = true := by
  have : (us.map (·.1)).Pairwise fun k l => lexK k l = true := by
    rw [e, List.pairwise_map]
    exact h.imp fun z => tkey_lt z
  exact List.pairwise_map.mp this
theorem sl_irr {u : List Nat} : ¬ Sl u u := fun h => by
  rcases h with h | ⟨_, h⟩
  · exact absurd h (Nat.lt_irrefl _)
  · exact absurd h (List.lt_irrefl _)
theorem bf_eq {st : (Int × Bool) → Nat → Int × Bool} {k0 : Int × Bool} {es fs : ES} (b : Bf st k0 es es.length 0) (c : Bf st k0 fs fs.length 0) : es = fs := by
  have sub : ∀ {es fs : ES}, Bf st k0 es es.length 0 → Bf st k0 fs fs.length 0 → ∀ e ∈ es, e ∈ fs := fun {es fs} b c e he => by
    obtain ⟨f, hf, ek, _⟩ := c.full (b.abc e he)
    have ek : f.1 = e.1 := by rw [ek, b.wk e he]
    have ew := c.same b hf he ek
    have : f = e := Prod.ext ek ew
    rw [← this]
    exact hf
  have nd : ∀ {es : ES}, Bf st k0 es es.length 0 → es.Nodup := fun b => List.Pairwise.of_map (S := fun a b : (Int × Bool) => a ≠ b) (fun e : (Int × Bool) × List Nat => e.1) (fun e f h z => h (by rw [z])) b.inj
  have pm : es.Perm fs := (List.perm_ext_iff_of_nodup (nd b) (nd c)).mpr fun e => ⟨sub b c e, sub c b e⟩
  exact List.Perm.eq_of_pairwise (le := fun e f : (Int × Bool) × List Nat => Sl e.2 f.2) (fun e f _ _ h1 h2 => absurd (sle_antisymm (.inr h1) (.inr h2)) (fun z => by rw [z] at h1; exact sl_irr h1)) (List.pairwise_map.mp b.up) (List.pairwise_map.mp c.up) pm

def KeptD (D : Addr) (H H' : Hp) : Prop := TupKeep H H' ∧ ∀ b o, b ≠ D → H b = some o → H' b = some o
theorem KeptD.same {D : Addr} {H H' : Hp} (s : Same H H') : KeptD D H H' := ⟨s.tk, fun b o _ e => s b o e⟩
theorem KeptD.trans {D : Addr} {H1 H2 H3 : Hp} (a : KeptD D H1 H2) (b : KeptD D H2 H3) : KeptD D H1 H3 := ⟨a.1.trans b.1, fun x o n e => b.2 x o n (a.2 x o n e)⟩
theorem KeptD.upd {D : Addr} {H : Hp} {o : HO} {ys : List V} (h : H D = some (.lst ys)) : KeptD D H (upd H D o) := ⟨TupKeep.upd (fun zs e => by rw [h] at e; cases e), fun b u n e => by rw [upd_ne n]; exact e⟩
theorem comp_growD {α β : Type} {js : List Nat} {tc : TT} {te : TE} {σ : St} {H : Hp} {Fin : Addr → Hp → Prop} {J : It} (bs : List β) (val : β → V) (f : β → α) (R : Addr → Hp → V → α → Prop)
    (mono : ∀ D H1 H2 v c, KeptD D H1 H2 → R D H1 v c → R D H2 v c)
    (hJ : ∀ H', Same H H' → (∀ i b, bs[i]? = some b → J.go i H' ∧ ∀ v H2, J.yld i H' v H2 → v = val b ∧ H2 = H') ∧ J.stop bs.length H')
    (ht : ∀ b H', b ∈ bs → Same H H' → ∀ Q2 : Bool → Hp → Prop, (∀ H3, Same H' H3 → Q2 true H3) → tc (blkSt js σ (some (val b))) H' Q2)
    (he : ∀ b H' D ys, b ∈ bs → H D = none → H' D = some (.lst ys) → Same H H' → ∀ Q2 : VK, (∀ y H4, Same H' H4 → R D H4 y (f b) → Q2 y H4) → te (blkSt js σ (some (val b))) H' Q2)
    (hn : bs.length ≤ sizeLine)
    (hd : ∀ D ws H', H D = none → Same H H' → H' D = some (.lst ws) → Paired (R D H') ws (bs.map f) → Fin D H') : CompBy js tc te σ J H Fin := by
  intro D hD
  let Pv : Nat → List V → Hp → Prop := fun i ys H' => Same H H' ∧ H' D = some (.lst ys) ∧ Paired (R D H') ys ((bs.take i).map f)
  refine ⟨fun i m ys H' => m = bs.length - i ∧ i ≤ bs.length ∧ Pv i ys H', ⟨bs.length, by simp, Nat.zero_le _, Same.new hD, upd_same, by simpa using Paired.nil⟩, ?_⟩
  rintro i m ys H' ⟨rfl, hi, sm, hL, pr⟩
  refine ⟨hL, ?_⟩
  by_cases hlt : i < bs.length
  · have hx : bs[i]? = some bs[i] := by simp [hlt]
    have hmem : bs[i] ∈ bs := List.getElem_mem hlt
    have htake : bs.take (i + 1) = bs.take i ++ [bs[i]] := by rw [List.take_add_one, hx]; rfl
    obtain ⟨g1, g2⟩ := (hJ H' sm).1 i _ hx
    have hyl : ys.length ≤ i := by
      have e := prd_len pr
      rw [List.length_map, List.length_take] at e
      omega
    refine .inr ⟨g1, Pv (i + 1), fun zs H'' p' => ⟨bs.length - (i + 1), by omega, rfl, hlt, p'⟩, fun v H2 y => ?_⟩
    obtain ⟨e, y'⟩ := g2 v H2 y
    subst e; subst y'
    refine ht _ _ hmem sm _ fun H3 s3 => ?_
    have sm3 : Same H H3 := sm.trans s3
    have pr3 : Paired (R D H3) ys ((bs.take i).map f) := prd_imp (fun x y r => mono _ _ _ _ _ (KeptD.same s3) r) pr
    refine ifp rfl ?_
    refine he _ _ D ys hmem hD (s3 _ _ hL) sm3 _ fun y4 H4 s4 r4 => ?_
    have hL4 : H4 D = some (.lst ys) := s4 _ _ (s3 _ _ hL)
    refine ⟨hL4, by omega, (sm3.trans s4).upd hD, upd_same, ?_⟩
    rw [htake, List.map_append]
    exact prd_append (prd_imp (fun x y r => mono _ _ _ _ _ ((KeptD.same s4).trans (KeptD.upd hL4)) r) pr3) (.cons (mono _ _ _ _ _ (KeptD.upd hL4) r4) .nil)
  · have e : i = bs.length := by omega
    subst e
    refine .inl ⟨(hJ H' sm).2, hd D ys H' hD sm hL ?_⟩
    rwa [List.take_length] at pr
def DueR (D : Addr) (H : Hp) (v : V) (c : Int × Int × Int) : Prop := ∃ (l : Addr) (ws : List V) (es : ES), v = .ref l ∧ l ≠ D ∧ H l = some (.lst ws) ∧ Bf (lst3 c.1 c.2.1 c.2.2) (0, true) es es.length 0 ∧ Paired (RuleR H) ws (rls c.1 c.2.1 c.2.2 es es)
theorem DueR.mono {D : Addr} {H1 H2 : Hp} {v : V} {c : Int × Int × Int} (t : KeptD D H1 H2) (r : DueR D H1 v c) : DueR D H2 v c := by
  obtain ⟨l, ws, es, e, n, hl, b, p⟩ := r
  exact ⟨l, ws, es, e, n, t.2 _ _ n hl, b, rule_mono t.1 p⟩
theorem rule_tup {H : Hp} {ws : List V} : ∀ {ps : List (List Nat × List Nat)}, Paired (RuleR H) ws ps → Paired (TupOf StrR H) ws (ps.map fun p => [(⟨p.1.toArray⟩ : Str), ⟨p.2.toArray⟩]) := fun h => by
  induction h with
  | nil => exact .nil
  | cons r t ih =>
    obtain ⟨a, e, z⟩ := r
    exact .cons ⟨a, _, e, z, .cons rfl (.cons rfl .nil)⟩ ih

structure Txt (K : PySem.W.Frag) (mg : Str → Option Value) : Prop where
  b_len : mg "len" = none
  b_max : mg "max" = none
  b_min : mg "min" = none
  b_range : mg "range" = none
  b_isinstance : mg "isinstance" = none
  b_int : mg "int" = none
  b_bool : mg "bool" = none
  b_tuple : mg "tuple" = none
  b_str : mg "str" = none
  b_list : mg "list" = none
  b_sorted : mg "sorted" = none
  g_START : ∃ a : Addr, mg "START" = some (.ref a) ∧ RelV (V.ref a) (.ref a) ∧ ∀ H : Hp, SqT K H a [.int 0, .str "up"]
  g_LETTERS : ∃ u : Value, mg "LETTERS" = some u ∧ RelV (V.str "abc") u
abbrev s_other_way : Stmt := top 1
theorem sc_other_way : FnScope ["way"] ["way"] (defScope s_other_way) := ⟨rfl, rfl, rfl, by decide +kernel, rfl, by decide +kernel, by decide +kernel⟩
def sp_other_way (wd : World) (K : PySem.W.Frag) : Sp := fun vs H Q _ => ∃ (u : Bool), vs = [.str (wS u)] ∧ Q (.str (wS (!u))) H
abbrev s_reach : Stmt := top 2
theorem sc_reach : FnScope ["sort", "letter"] ["sort", "letter"] (defScope s_reach) := ⟨rfl, rfl, rfl, by decide +kernel, rfl, by decide +kernel, by decide +kernel⟩
def sp_reach (wd : World) (K : PySem.W.Frag) : Sp := fun vs H Q _ => ∃ (s : Addr) (n x y : Int) (c : Nat), vs = [.ref s, .str ⟨#[c]⟩] ∧ H s = some (.tup [.int n, .int x, .int y]) ∧ (c = 97 ∨ c = 98 ∨ c = 99) ∧ Q (.int (if c = 98 then x else if c = 99 then -y else 0)) H
abbrev s_letter_done : Stmt := top 3
theorem sc_letter_done : FnScope ["sort", "chord", "letter", "far"] ["sort", "chord", "letter"] (defScope s_letter_done) := ⟨rfl, rfl, rfl, by decide +kernel, rfl, by decide +kernel, by decide +kernel⟩
def sp_letter_done (wd : World) (K : PySem.W.Frag) : Sp := fun vs H Q _ => ∃ (s p : Addr) (n x y : Int) (k : Int × Bool) (c : Nat), vs = [.ref s, .ref p, .str ⟨#[c]⟩] ∧ H s = some (.tup [.int n, .int x, .int y]) ∧ SqT K H p (chd k) ∧ (c = 97 ∨ c = 98 ∨ c = 99) ∧ 0 < n ∧ (0 ≤ x ∧ x ≤ 100) ∧ (0 ≤ y ∧ y ≤ 100) ∧ ∀ (r : Addr) (H' : Hp), Same H H' → H' r = some (.tup (chd (ltr n x y c k))) → Q (.ref r) H'
abbrev s_led : Stmt := top 4
theorem sc_led : FnScope ["sort", "chord", "word", "letter"] ["sort", "chord", "word"] (defScope s_led) := ⟨rfl, rfl, rfl, by decide +kernel, rfl, by decide +kernel, by decide +kernel⟩
def sp_led (wd : World) (K : PySem.W.Frag) : Sp := fun vs H Q _ => ∃ (s p : Addr) (n x y : Int) (k : Int × Bool) (w : List Nat), vs = [.ref s, .ref p, .str ⟨w.toArray⟩] ∧ H s = some (.tup [.int n, .int x, .int y]) ∧ 3 ≤ n ∧ n ≤ 24 ∧ 1 ≤ x ∧ 1 ≤ y ∧ x + y < n ∧ SqT K H p (chd k) ∧ (0 ≤ k.1 ∧ k.1 < n) ∧ (∀ c ∈ w, c = 97 ∨ c = 98 ∨ c = 99) ∧ w.length ≤ 1000 ∧ ∀ (r : Addr) (H' : Hp), Same H H' → SqT K H' r (chd (wlk n x y w k)) → (H p = some (.tup (chd k)) → H' r = some (.tup (chd (wlk n x y w k)))) → Q (.ref r) H'
abbrev s_shortest_words : Stmt := top 8
theorem sc_shortest_words : FnScope ["sort", "found", "newest", "reached", "chord", "letter", "following"] ["sort"] (defScope s_shortest_words) := ⟨rfl, rfl, rfl, by decide +kernel, rfl, by decide +kernel, by decide +kernel⟩
def sp_shortest_words (wd : World) (K : PySem.W.Frag) : Sp := fun vs H Q _ => ∃ (s : Addr) (n x y : Int), vs = [.ref s] ∧ H s = some (.tup [.int n, .int x, .int y]) ∧ 3 ≤ n ∧ n ≤ 24 ∧ 1 ≤ x ∧ 1 ≤ y ∧ x + y < n ∧ ∀ (d : Addr) (kvs : KX) (es : ES) (H' : Hp), H d = none → Same H H' → H' d = some (dX wd d kvs) → KeysOk K H' kvs → KEs kvs es → Bf (lst3 n x y) (0, true) es es.length 0 → Q (.ref d) H'
abbrev s_rules : Stmt := top 9
theorem sc_rules : FnScope ["sort", "known", "found", "chord", "word", "letter", "right"] ["sort"] (defScope s_rules) := ⟨rfl, rfl, rfl, by decide +kernel, rfl, by decide +kernel, by decide +kernel⟩
def sp_rules (wd : World) (K : PySem.W.Frag) : Sp := fun vs H Q _ => ∃ (s : Addr) (n x y : Int), vs = [.ref s] ∧ H s = some (.tup [.int n, .int x, .int y]) ∧ 3 ≤ n ∧ n ≤ 24 ∧ 1 ≤ x ∧ 1 ≤ y ∧ x + y < n ∧ ∀ (l : Addr) (ws : List V) (es : ES) (H' : Hp), H l = none → Same H H' → H' l = some (.lst ws) → Bf (lst3 n x y) (0, true) es es.length 0 → Paired (RuleR H') ws (rls n x y es es) → Q (.ref l) H'
abbrev s_l_cell_at : Stmt := top 11
theorem sc_l_cell_at : FnScope ["_law_script", "_law_k"] ["_law_script", "_law_k"] (defScope s_l_cell_at) := ⟨rfl, rfl, rfl, by decide +kernel, rfl, by decide +kernel, by decide +kernel⟩
def sp_l_cell_at (wd : World) (K : PySem.W.Frag) : Sp := fun vs H Q _ => ∃ (a : Addr) (ns : List Int) (k : Int), vs = [.ref a, .int k] ∧ SqL K H a (ns.map V.int) ∧ ns.length ≤ 63 ∧ ∀ c : Int, Q (.int c) H
abbrev s_l_mixed : Stmt := top 12
theorem sc_l_mixed : FnScope ["_law_script", "_law_k", "_law_salt", "_law_cell", "_law_lap", "_law_near"] ["_law_script", "_law_k", "_law_salt"] (defScope s_l_mixed) := ⟨rfl, rfl, rfl, by decide +kernel, rfl, by decide +kernel, by decide +kernel⟩
def sp_l_mixed (wd : World) (K : PySem.W.Frag) : Sp := fun vs H Q _ => ∃ (a : Addr) (ns : List Int) (k z : Int), vs = [.ref a, .int k, .int z] ∧ SqL K H a (ns.map V.int) ∧ ns.length ≤ 63 ∧ (0 ≤ k ∧ k ≤ 1000000) ∧ (0 ≤ z ∧ z ≤ 1000000) ∧ ∀ c : Int, 0 ≤ c → c < 2147483648 → Q (.int c) H
abbrev s_l_wheel : Stmt := top 13
theorem sc_l_wheel : FnScope ["_law_script", "_law_most"] ["_law_script", "_law_most"] (defScope s_l_wheel) := ⟨rfl, rfl, rfl, by decide +kernel, rfl, by decide +kernel, by decide +kernel⟩
def sp_l_wheel (wd : World) (K : PySem.W.Frag) : Sp := fun vs H Q _ => ∃ (a : Addr) (ns : List Int), vs = [.ref a, .int 24] ∧ SqL K H a (ns.map V.int) ∧ ns.length ≤ 63 ∧ ∀ n : Int, 3 ≤ n → n ≤ 24 → Q (.int n) H
abbrev s_l_sort : Stmt := top 14
theorem sc_l_sort : FnScope ["_law_script", "_law_most", "_law_n", "_law_x"] ["_law_script", "_law_most"] (defScope s_l_sort) := ⟨rfl, rfl, rfl, by decide +kernel, rfl, by decide +kernel, by decide +kernel⟩
def sp_l_sort (wd : World) (K : PySem.W.Frag) : Sp := fun vs H Q _ => ∃ (a : Addr) (ns : List Int), vs = [.ref a, .int 24] ∧ SqL K H a (ns.map V.int) ∧ ns.length ≤ 63 ∧ ∀ n x y : Int, 3 ≤ n → n ≤ 24 → 1 ≤ x → 1 ≤ y → x + y < n → ∀ (r : Addr) (H' : Hp), Same H H' → H' r = some (.tup [.int n, .int x, .int y]) → Q (.ref r) H'
abbrev s_l_letter : Stmt := top 15
theorem sc_l_letter : FnScope ["_law_sort_here", "_law_chord", "_law_letter_here", "_law_n", "_law_x", "_law_y", "_law_root", "_law_way"] ["_law_sort_here", "_law_chord", "_law_letter_here"] (defScope s_l_letter) := ⟨rfl, rfl, rfl, by decide +kernel, rfl, by decide +kernel, by decide +kernel⟩
def sp_l_letter (wd : World) (K : PySem.W.Frag) : Sp := fun vs H Q _ => ∃ (s p : Addr) (n x y : Int) (k : Int × Bool) (c : Nat), vs = [.ref s, .ref p, .str ⟨#[c]⟩] ∧ H s = some (.tup [.int n, .int x, .int y]) ∧ SqT K H p (chd k) ∧ (c = 97 ∨ c = 98 ∨ c = 99) ∧ 0 < n ∧ (0 ≤ x ∧ x ≤ 100) ∧ (0 ≤ y ∧ y ≤ 100) ∧ ∀ (r : Addr) (H' : Hp), Same H H' → H' r = some (.tup (chd (ltr n x y c k))) → Q (.ref r) H'
abbrev s_l_best : Stmt := top 17
theorem sc_l_best : FnScope ["_law_sort_here", "_law_best_here", "_law_line", "_law_at", "_law_letter_here", "_law_other_here"] ["_law_sort_here"] (defScope s_l_best) := ⟨rfl, rfl, rfl, by decide +kernel, rfl, by decide +kernel, by decide +kernel⟩
def sp_l_best (wd : World) (K : PySem.W.Frag) : Sp := fun vs H Q _ => ∃ (s : Addr) (n x y : Int), vs = [.ref s] ∧ H s = some (.tup [.int n, .int x, .int y]) ∧ 3 ≤ n ∧ n ≤ 24 ∧ 1 ≤ x ∧ 1 ≤ y ∧ x + y < n ∧ ∀ (d : Addr) (kvs : KX) (es : ES) (H' : Hp), H d = none → Same H H' → H' d = some (dX wd d kvs) → KeysOk K H' kvs → KEs kvs es → Bf (lst3 n x y) (0, true) es es.length 0 → Q (.ref d) H'
abbrev s_l_other : Stmt := top 18
theorem sc_l_other : FnScope ["_law_script", "_law_sort_here", "_law_n", "_law_x", "_law_y", "_law_number"] ["_law_script", "_law_sort_here"] (defScope s_l_other) := ⟨rfl, rfl, rfl, by decide +kernel, rfl, by decide +kernel, by decide +kernel⟩
def sp_l_other (wd : World) (K : PySem.W.Frag) : Sp := fun vs H Q _ => ∃ (a s : Addr) (ns : List Int) (n x y : Int), vs = [.ref a, .ref s] ∧ SqL K H a (ns.map V.int) ∧ ns.length ≤ 63 ∧ H s = some (.tup [.int n, .int x, .int y]) ∧ 3 ≤ n ∧ n ≤ 24 ∧ 1 ≤ x ∧ 1 ≤ y ∧ x + y < n ∧ ∀ n x y : Int, 3 ≤ n → n ≤ 24 → 1 ≤ x → 1 ≤ y → x + y < n → ∀ (r : Addr) (H' : Hp), Same H H' → H' r = some (.tup [.int n, .int x, .int y]) → Q (.ref r) H'
abbrev s_l_due : Stmt := top 19
theorem sc_l_due : FnScope ["_law_sort_here", "_law_best_here", "_law_due_here", "_law_chord", "_law_letter_here", "_law_left", "_law_right"] ["_law_sort_here"] (defScope s_l_due) := ⟨rfl, rfl, rfl, by decide +kernel, rfl, by decide +kernel, by decide +kernel⟩
def sp_l_due (wd : World) (K : PySem.W.Frag) : Sp := fun vs H Q _ => ∃ (s : Addr) (n x y : Int), vs = [.ref s] ∧ H s = some (.tup [.int n, .int x, .int y]) ∧ 3 ≤ n ∧ n ≤ 24 ∧ 1 ≤ x ∧ 1 ≤ y ∧ x + y < n ∧ ∀ (l : Addr) (ws : List V) (es : ES) (H' : Hp), H l = none → Same H H' → H' l = some (.lst ws) → Bf (lst3 n x y) (0, true) es es.length 0 → Paired (RuleR H') ws (rls n x y es es) → Q (.ref l) H'
abbrev s_law : Stmt := top 20
theorem sc_law : FnScope ["_law_script", "_law_sort_here", "_law_sorts", "_law_dues", "_law_k", "_law_found"] ["_law_script"] (defScope s_law) := ⟨rfl, rfl, rfl, by decide +kernel, rfl, by decide +kernel, by decide +kernel⟩
def sp_law (wd : World) (K : PySem.W.Frag) : Sp := fun vs H Q _ => ∃ (a : Addr) (ns : List Int), vs = [.ref a] ∧ SqL K H a (ns.map V.int) ∧ ns.length ≤ 63 ∧ ∀ H', Q (.bl true) H'
section
variable {P : Program} {w : World} {K : PySem.W.Frag} {mg : Str → Option Value} {base : Heap}
set_option maxHeartbeats 8000000 in
theorem ok_other_way {f : Addr} {fd : FuncData} (F : Fun K "other_way" "other_way" s_other_way f fd) (T : Txt K mg)  : FnOk P w K mg base CX0 1 f fd ["way"] (sp_other_way w K) := by
  refine F.ok sc_other_way (fun vs H Q E h => ?_) (fun cdv A outer s H vs Q E hr h => ?_)
  · obtain ⟨u, rfl, q⟩ := h
    rfl
  · obtain ⟨u, rfl, q⟩ := h
    refine ⟨_, (@pss_one _ _ _ (@ps_ret _ _ _ _ (pe_ifExp (@pt_cmpR _ _ _ _ _ _ _ _ op_eq (pv 0) pe_str (nomark _)) pe_str pe_str))), ?_⟩
    refine ⟨_, rfl, rfl, _, rfl, ?_⟩
    rw [wS_up]
    cases u with
    | true => exact ifp rfl q
    | false => exact ifn rfl q
set_option maxHeartbeats 8000000 in
theorem ok_reach {f : Addr} {fd : FuncData} (F : Fun K "reach" "reach" s_reach f fd) (T : Txt K mg)  : FnOk P w K mg base CX0 1 f fd ["sort", "letter"] (sp_reach w K) := by
  refine F.ok sc_reach (fun vs H Q E h => ?_) (fun cdv A outer s H vs Q E hr h => ?_)
  · obtain ⟨s, n, x, y, c, rfl, hs, hc, q⟩ := h
    rfl
  · obtain ⟨s, n, x, y, c, rfl, hs, hc, q⟩ := h
    refine ⟨_, (@pss_cons _ _ _ _ _ (@ps_if _ _ _ _ _ _ _ _ (@pt_cmpR _ _ _ _ _ _ _ _ op_eq (pv 1) pe_str (nomark _))
        (@pss_one _ _ _ (@ps_ret _ _ _ _ pe_int))
        pss_nil)
      (@pss_cons _ _ _ _ _ (@ps_if _ _ _ _ _ _ _ _ (@pt_cmpR _ _ _ _ _ _ _ _ op_eq (pv 1) pe_str (nomark _))
        (@pss_one _ _ _ (@ps_ret _ _ _ _ (@pe_ix _ _ _ _ _ _ _ ix_tup (pv 0) pe_int (fun _ _ => rfl))))
        pss_nil)
      (@pss_one _ _ _ (@ps_ret _ _ _ _ (pe_un un_neg (@pe_ix _ _ _ _ _ _ _ ix_tup (pv 0) pe_int (fun _ _ => rfl))))))), ?_⟩
    refine ⟨_, rfl, rfl, _, rfl, ?_⟩
    rw [sgn_a hc]
    refine if2 (fun e => ?_) (fun e => ?_)
    · have e := of_decide_eq_true e
      rw [if_neg (by omega), if_neg (by omega)] at q
      exact q
    have e := of_decide_eq_false e
    refine ⟨_, rfl, rfl, _, rfl, ?_⟩
    rw [sgn_b hc]
    refine if2 (fun e2 => ?_) (fun e2 => ?_)
    · rw [if_pos (of_decide_eq_true e2)] at q
      exact ⟨_, rfl, s, _, _, _, rfl, rfl, SqT.of hs, rfl, q⟩
    have e2 := of_decide_eq_false e2
    rw [if_neg e2, if_pos (by omega)] at q
    exact ⟨_, rfl, s, _, _, _, rfl, rfl, SqT.of hs, rfl, _, rfl, q⟩
set_option maxHeartbeats 8000000 in
theorem ok_letter_done {f : Addr} {fd : FuncData} (F : Fun K "letter_done" "letter_done" s_letter_done f fd) (T : Txt K mg) (C_other_way : Has P w K mg base 1 "other_way" ["way"] (sp_other_way w K)) (C_reach : Has P w K mg base 1 "reach" ["sort", "letter"] (sp_reach w K)) : FnOk P w K mg base CX0 2 f fd ["sort", "chord", "letter"] (sp_letter_done w K) := by
  refine F.ok sc_letter_done (fun vs H Q E h => ?_) (fun cdv A outer s H vs Q E hr h => ?_)
  · obtain ⟨s, p, n, x, y, k, c, rfl, hs, hp, hc, hn, hx, hy, q⟩ := h
    rfl
  · obtain ⟨s, p, n, x, y, k, c, rfl, hs, hp, hc, hn, hx, hy, q⟩ := h
    refine ⟨_, (@pss_cons _ _ _ _ _ (@ps_set _ _ 3 _ _ _ _ sc_letter_done.nd rfl (Or.inl rfl) (pe_ifExp (@pt_cmpR _ _ _ _ _ _ _ _ op_eq (@pe_ix _ _ _ _ _ _ _ ix_tup (pv 1) pe_int (fun _ _ => rfl)) pe_str (nomark _)) (@pe_callH _ _ _ _ _ _ _ _ _ _ C_reach (hr.mono (by decide)) rfl (@pa_cons _ _ _ _ _ (pv 0) (@pa_cons _ _ _ _ _ (pv 2) pa_nil (by rfl)) (by rfl)) (by decide) (by rfl) (by rfl)) (pe_un un_neg (@pe_callH _ _ _ _ _ _ _ _ _ _ C_reach (hr.mono (by decide)) rfl (@pa_cons _ _ _ _ _ (pv 0) (@pa_cons _ _ _ _ _ (pv 2) pa_nil (by rfl)) (by rfl)) (by decide) (by rfl) (by rfl)))) (by rfl) (by first | exact Or.inl rfl | exact Or.inr rfl))
      (@pss_one _ _ _ (@ps_ret _ _ _ _ (@pe_tup _ _ _ _ _ (@pa_cons _ _ _ _ _ (@pe_op _ _ _ _ _ _ _ _ op_mod (@pe_op _ _ _ _ _ _ _ _ op_add (@pe_ix _ _ _ _ _ _ _ ix_tup (pv 1) pe_int (fun _ _ => rfl)) (pv 3)) (@pe_ix _ _ _ _ _ _ _ ix_tup (pv 0) pe_int (fun _ _ => rfl))) (@pa_cons _ _ _ _ _ (@pe_callH _ _ _ _ _ _ _ _ _ _ C_other_way (hr.mono (by decide)) rfl (@pa_cons _ _ _ _ _ (@pe_ix _ _ _ _ _ _ _ ix_tup (pv 1) pe_int (fun _ _ => rfl)) pa_nil (by rfl)) (by decide) (by rfl) (by rfl)) pa_nil (by rfl)) (by rfl)))))), ?_⟩
    obtain ⟨root, u⟩ := k
    have e1 : -(if c = 98 then x else if c = 99 then -y else 0) = if c = 98 then -x else if c = 99 then y else 0 := by split <;> (try split) <;> omega
    refine ⟨_, rfl, p, _, _, _, rfl, rfl, hp, rfl, rfl, _, rfl, ?_⟩
    rw [wS_up]
    cases u with
    | true =>
      refine ifp rfl ⟨_, rfl, _, rfl, s, n, x, y, c, rfl, hs, hc, ?_⟩
      exact ⟨_, rfl, p, _, _, _, rfl, rfl, hp, rfl, _, rfl, _, _, rfl, rfl, _, rfl, s, _, _, _, rfl, rfl, SqT.of hs, rfl, _, _, rfl, rfl, hn, _, rfl, p, _, _, _, rfl, rfl, hp, rfl, true, rfl, two_fit, fun r r0 => q r _ (Same.new r0) upd_same⟩
    | false =>
      refine ifn rfl ⟨_, rfl, _, rfl, s, n, x, y, c, rfl, hs, hc, _, rfl, ?_⟩
      dsimp only
      rw [e1]
      exact ⟨_, rfl, p, _, _, _, rfl, rfl, hp, rfl, _, rfl, _, _, rfl, rfl, _, rfl, s, _, _, _, rfl, rfl, SqT.of hs, rfl, _, _, rfl, rfl, hn, _, rfl, p, _, _, _, rfl, rfl, hp, rfl, false, rfl, two_fit, fun r r0 => q r _ (Same.new r0) upd_same⟩
set_option maxHeartbeats 8000000 in
theorem ok_led {f : Addr} {fd : FuncData} (F : Fun K "led" "led" s_led f fd) (T : Txt K mg) (C_letter_done : Has P w K mg base 2 "letter_done" ["sort", "chord", "letter"] (sp_letter_done w K)) : FnOk P w K mg base CX0 3 f fd ["sort", "chord", "word"] (sp_led w K) := by
  refine F.ok sc_led (fun vs H Q E h => ?_) (fun cdv A outer s H vs Q E hr h => ?_)
  · obtain ⟨s, p, n, x, y, k, w, rfl, hs, n3, n24, x1, y1, xy, hp, hk, hw, hl, q⟩ := h
    rfl
  · obtain ⟨s, p, n, x, y, k, w, rfl, hs, n3, n24, x1, y1, xy, hp, hk, hw, hl, q⟩ := h
    refine ⟨_, (@pss_cons _ _ _ _ _ (ps_for PassesOwn.never rfl (pi_str (pv 2)) (pg_name (i := 3) sc_led.nd rfl (Or.inl rfl))
        (@pss_one _ _ _ (@ps_set _ _ 1 _ _ _ _ sc_led.nd rfl (Or.inl rfl) (@pe_callH _ _ _ _ _ _ _ _ _ _ C_letter_done (hr.mono (by decide)) rfl (@pa_cons _ _ _ _ _ (pv 0) (@pa_cons _ _ _ _ _ (pv 1) (@pa_cons _ _ _ _ _ (pv 3) pa_nil (by rfl)) (by rfl)) (by rfl)) (by decide) (by rfl) (by rfl)) (by rfl) (by first | exact Or.inl rfl | exact Or.inr rfl))))
      (@pss_one _ _ _ (@ps_ret _ _ _ _ (pv 1)))), ?_⟩
    have hn : 0 < n := by omega
    refine ⟨_, rfl, _, rfl, ascii_w hw, for_str (fun j σ G => ∃ (w3 : Option V) (d : Addr), σ = [some (.ref s), some (.ref d), some (.str ⟨w.toArray⟩), w3] ∧ Same H G ∧ SqT K G d (chd (wlk n x y (w.take j) k)) ∧ (H p = some (.tup (chd k)) → G d = some (.tup (chd (wlk n x y (w.take j) k))))) ⟨_, p, rfl, Same.refl _, hp, fun z => z⟩ ?_ ?_⟩
    · rintro j c σ G hc ⟨w3, d, rfl, sG, hd, _⟩
      have hc : w[j]? = some c := by simpa using hc
      have tk : w.take (j + 1) = w.take j ++ [c] := by rw [List.take_add_one, hc]; rfl
      refine ⟨_, rfl, _, rfl, _, rfl, s, d, n, x, y, _, c, rfl, sG _ _ hs, hd, hw c (List.mem_of_getElem? hc), hn, ⟨by omega, by omega⟩, ⟨by omega, by omega⟩, fun r H4 s4 h4 => ?_⟩
      have h5 : H4 r = some (.tup (chd (wlk n x y (w.take (j + 1)) k))) := by
        rw [tk, wlk_app]
        exact h4
      exact ⟨_, r, rfl, sG.trans s4, SqT.of h5, fun _ => h5⟩
    · rintro σ G ⟨w3, d, rfl, sG, hd, hd2⟩
      have e : w.take (⟨w.toArray⟩ : Str).cps.size = w := List.take_of_length_le (Nat.le_refl _)
      rw [e] at hd hd2
      exact ⟨_, rfl, q d G sG hd hd2⟩
set_option maxHeartbeats 8000000 in
theorem ok_shortest_words {f : Addr} {fd : FuncData} (F : Fun K "shortest_words" "shortest_words" s_shortest_words f fd) (T : Txt K mg) (C_led : Has P w K mg base 3 "led" ["sort", "chord", "word"] (sp_led w K)) : FnOk P w K mg base CX0 4 f fd ["sort"] (sp_shortest_words w K) := by
  refine F.ok sc_shortest_words (fun vs H Q E h => ?_) (fun cdv A outer s H vs Q E hr h => ?_)
  · obtain ⟨s, n, x, y, rfl, hs, n3, n24, x1, y1, xy, q⟩ := h
    rfl
  · obtain ⟨s, n, x, y, rfl, hs, n3, n24, x1, y1, xy, q⟩ := h
    obtain ⟨u_LETTERS, hm_LETTERS, rv_LETTERS⟩ := T.g_LETTERS
    obtain ⟨a_START, hm_START, rv_START, sq_START⟩ := T.g_START
    refine ⟨_, (@pss_cons _ _ _ _ _ (@ps_set _ _ 1 _ _ _ _ sc_shortest_words.nd rfl (Or.inl rfl) (pe_xone hr.units0 (pe_glob (v := V.ref a_START) (by rfl) hm_START rv_START) pe_str) (by rfl) (by first | exact Or.inl rfl | exact Or.inr rfl))
      (@pss_cons _ _ _ _ _ (@ps_set _ _ 2 _ _ _ _ sc_shortest_words.nd rfl (Or.inl rfl) (@pe_lst _ _ _ _ (@pa_cons _ _ _ _ _ (pe_glob (v := V.ref a_START) (by rfl) hm_START rv_START) pa_nil (by rfl))) (by rfl) (by first | exact Or.inl rfl | exact Or.inr rfl))
      (@pss_cons _ _ _ _ _ (@ps_while _ _ _ _ _ _ PassesOwn.never (pt_truth (pv 2) (fun _ => rfl))
        (@pss_cons _ _ _ _ _ (@ps_set _ _ 3 _ _ _ _ sc_shortest_words.nd rfl (Or.inl rfl) (@pe_lst _ _ _ _ pa_nil) (by rfl) (by first | exact Or.inl rfl | exact Or.inr rfl))
        (@pss_cons _ _ _ _ _ (ps_for PassesOwn.never rfl (pi_list (pv 2)) (pg_name (i := 4) sc_shortest_words.nd rfl (Or.inl rfl))
          (@pss_one _ _ _ (ps_for PassesOwn.never rfl (pi_str (pe_glob (v := V.str "abc") (by rfl) hm_LETTERS rv_LETTERS)) (pg_name (i := 5) sc_shortest_words.nd rfl (Or.inl rfl))
            (@pss_cons _ _ _ _ _ (@ps_set _ _ 6 _ _ _ _ sc_shortest_words.nd rfl (Or.inl rfl) (@pe_callH _ _ _ _ _ _ _ _ _ _ C_led (hr.mono (by decide)) rfl (@pa_cons _ _ _ _ _ (pv 0) (@pa_cons _ _ _ _ _ (pv 4) (@pa_cons _ _ _ _ _ (pv 5) pa_nil (by rfl)) (by rfl)) (by rfl)) (by decide) (by rfl) (by rfl)) (by rfl) (by first | exact Or.inl rfl | exact Or.inr rfl))
            (@pss_one _ _ _ (@ps_if _ _ _ _ _ _ _ _ (pt_cmp (pc_xnotin (units1 hr) (pv 6) (pv 1)))
              (@pss_cons _ _ _ _ _ (ps_xput (units1 hr) (pv 1) (pv 6) (@pe_op _ _ _ _ _ _ _ _ op_add_str (pe_xget (units1 hr) (pv 1) (pv 4) (fun _ _ => rfl)) (pv 5)) rfl)
              (@pss_one _ _ _ (ps_expr (pe_bm PySem.F.plainAttrs_list PySem.F.slot_list_append PySem.F.type_list_append mt_append (pv 3) (@pa_cons _ _ _ _ _ (pv 6) pa_nil (by rfl))))))
              pss_nil))))))
        (@pss_one _ _ _ (@ps_set _ _ 2 _ _ _ _ sc_shortest_words.nd rfl (Or.inl rfl) (pv 3) (by rfl) (by first | exact Or.inl rfl | exact Or.inr rfl))))))
      (@pss_one _ _ _ (@ps_ret _ _ _ _ (pv 1)))))), ?_⟩
    have hn : 0 < n := by omega
    refine fun d d0 => ⟨a_START, ckey (0, true), rfl, upd_same, sq_START _, ?_⟩
    have sD : Same H (upd (upd H d (dX w d [])) d (dX w d [(ckey (0, true), a_START, .str "")])) := ((Same.refl _).upd d0).upd d0
    have hD : upd (upd H d (dX w d [])) d (dX w d [(ckey (0, true), a_START, .str "")]) d = some (dX w d [(ckey (0, true), a_START, .str "")]) := upd_same
    refine ⟨(by show 1 ≤ sizeLine; decide), fun l l0 => ?_⟩
    obtain ⟨sL, hL⟩ := new_all (o := .lst [V.ref a_START]) l0
    refine ⟨fun m σ G => ∃ (l : Addr) (kvs : KX) (es : ES) (ws : List V) (b : Nat) (w3 w4 w5 w6 : Option V), σ = [some (.ref s), some (.ref d), some (.ref l), w3, w4, w5, w6] ∧ m = 49 - b ∧ b ≤ es.length ∧ QInv w K H d l b kvs es ws G ∧ Bf (lst3 n x y) (0, true) es b 0, ⟨49, l, _, [((0, true), [])], _, 0, _, _, _, _, rfl, rfl, Nat.zero_le _, ⟨sD.trans sL, sL _ _ hD, ?_, rfl, hL, .cons ⟨a_START, rfl, sq_START _⟩ .nil⟩, bf_start _ _⟩, ?_⟩
    · intro q hq
      rw [List.mem_singleton.mp hq]
      exact sq_START _
    rintro m σ G ⟨l, kvs, es, ws, b, w3, w4, w5, w6, rfl, rfl, hb, I, bf⟩
    have bd := bf_bound hn n24 bf
    have lw := prd_len I.vp
    rw [List.length_drop] at lw
    refine ⟨_, rfl, _, .inl ⟨ws, SqL.of I.rr, rfl⟩, ?_⟩
    cases hws : ws with
    | nil =>
      rw [hws] at lw
      have e : b = es.length := by
        have : ([] : List V).length = 0 := rfl
        omega
      subst e
      exact ifn rfl ⟨_, rfl, q d kvs es G d0 I.sm I.dd I.ok I.ke bf⟩
    | cons v0 ws0 =>
      have hw0 : 0 < ws.length := by rw [hws]; exact Nat.succ_pos _
      refine ifp rfl ?_
      refine ⟨fun σ' H' => ∃ m', m' < 49 - b ∧ ∃ (l : Addr) (kvs : KX) (es : ES) (ws : List V) (b : Nat) (w3 w4 w5 w6 : Option V), σ' = [some (.ref s), some (.ref d), some (.ref l), w3, w4, w5, w6] ∧ m' = 49 - b ∧ b ≤ es.length ∧ QInv w K H d l b kvs es ws H' ∧ Bf (lst3 n x y) (0, true) es b 0, fun _ _ z => z, ?_⟩
      refine ⟨(by show 0 ≤ sizeLine; decide), fun r r0 => ?_⟩
      obtain ⟨sR, hR⟩ := new_all (o := .lst []) r0
      have lr : l ≠ r := ne_of_none I.rr r0
      have hr0 : H r = none := I.sm.free r0
      have J : QInv w K H d r es.length kvs es [] (upd G r (.lst [])) := ⟨I.sm.trans sR, sR _ _ I.dd, I.ok.mono (TK.same sR), I.ke, hR, by rw [List.drop_length]; exact .nil⟩
      have pl := chr_mono (TK.same (K := K) sR) I.vp
      have hl := sR _ _ I.rr
      generalize upd G r (.lst []) = G2 at J pl hl ⊢
      refine ⟨_, rfl, l, rfl, ⟨_, SqL.of hl⟩, for_list (xs := ws) (fun i σ G' => ∃ (kvs' : KX) (more : ES) (vs : List V) (w4 w5 w6 : Option V), σ = [some (.ref s), some (.ref d), some (.ref l), some (.ref r), w4, w5, w6] ∧ QInv w K H d r es.length kvs' (es ++ more) vs G' ∧ Paired (ChR K G') ws (es.drop b) ∧ G' l = some (.lst ws) ∧ Bf (lst3 n x y) (0, true) (es ++ more) (b + i) 0) ⟨kvs, [], [], _, _, _, rfl, by rw [List.append_nil]; exact J, pl, hl, by rw [List.append_nil]; exact bf⟩ ?_ ?_ ?_⟩
      · rintro i σ G' _ ⟨kvs', more, vs, w4, w5, w6, rfl, J, pl, hl, bf⟩
        exact SqL.of hl
      · rintro i v σ G' hv ⟨kvs', more, vs, w4, w5, w6, rfl, J, pl, hl, bf⟩
        have hi : i < ws.length := by
          rcases Nat.lt_or_ge i ws.length with z | z
          · exact z
          · rw [List.getElem?_eq_none z] at hv; cases hv
        have hbi : b + i < es.length := by omega
        have g0 : (es.drop b)[i]? = some es[b + i] := by rw [List.getElem?_drop]; exact List.getElem?_eq_getElem hbi
        obtain ⟨v', gv, p, rfl, hp⟩ := prd_get pl g0
        rw [hv] at gv
        cases gv
        generalize hE0 : es[b + i] = e0 at g0 hp
        refine ⟨"abc", rfl, (by decide +kernel), for_str (fun j σ G' => ∃ (kvs' : KX) (more : ES) (vs : List V) (w5 w6 : Option V), σ = [some (.ref s), some (.ref d), some (.ref l), some (.ref r), some (.ref p), w5, w6] ∧ QInv w K H d r es.length kvs' (es ++ more) vs G' ∧ Paired (ChR K G') ws (es.drop b) ∧ G' l = some (.lst ws) ∧ SqT K G' p (chd e0.1) ∧ Bf (lst3 n x y) (0, true) (es ++ more) (b + i) j) ⟨kvs', more, vs, _, _, rfl, J, pl, hl, hp, bf⟩ ?_ ?_⟩
        · rintro j c σ G' hc ⟨kvs', more, vs, w5, w6, rfl, J, pl, hl, hp, bf⟩
          obtain ⟨hj, rfl⟩ := abc_at hc
          have h0 : (es ++ more)[b + i]? = some e0 := by rw [List.getElem?_append_left hbi, List.getElem?_eq_getElem hbi, hE0]
          have m0 := List.mem_of_getElem? h0
          have bd := bf_bound hn n24 bf
          have lk := kes_len J.ke
          have le := bf.len e0 m0
          refine ⟨_, rfl, _, rfl, _, rfl, s, p, n, x, y, e0.1, [97 + j], rfl, J.sm _ _ hs, n3, n24, x1, y1, xy, hp, bd.2 e0 m0, (fun c hc => by rw [List.mem_singleton.mp hc]; omega), (by show 1 ≤ 1000; decide), fun f G3 s3 h3 _ => ?_⟩
          have h3 : SqT K G3 f (chd (lst3 n x y e0.1 (97 + j))) := h3
          have J := J.same s3
          have pl := chr_mono (TK.same (K := K) s3) pl
          have hl := s3 _ _ hl
          have hp := TK.same s3 _ _ hp
          have bth := kes_both J.ke bf.inj
          refine ⟨_, rfl, _, rfl, d, f, ckey (lst3 n x y e0.1 (97 + j)), kvs', rfl, rfl, J.dd, J.ok, h3, _, rfl, ?_⟩
          by_cases hk : ∃ e' ∈ es ++ more, e'.1 = lst3 n x y e0.1 (97 + j)
          · obtain ⟨e', he', ek⟩ := hk
            refine ifn (by rw [← ek, bth.1 e' he']; rfl) ?_
            exact ⟨kvs', more, vs, _, _, rfl, J, pl, hl, hp, bf.there hj h0 he' ek⟩
          · have hno : ∀ e' ∈ es ++ more, e'.1 ≠ lst3 n x y e0.1 (97 + j) := fun e' he' z => hk ⟨e', he', z⟩
            have nn := bth.2 _ hno
            refine ifp (by rw [nn]; rfl) ?_
            have lz : (⟨e0.2.toArray⟩ : Str).length + (⟨#[97 + j]⟩ : Str).length ≤ sizeLine := by
              show e0.2.length + 1 ≤ sizeLine
              exact fit1000 (by omega)
            have kz : kvs'.length < sizeLine := fit999 (by omega)
            have lv := prd_len J.vp
            rw [List.length_drop] at lv
            have vz : vs.length < sizeLine := fit999 (by omega)
            refine ⟨_, rfl, _, rfl, d, p, ckey e0.1, kvs', _, rfl, rfl, J.dd, J.ok, hp, bth.1 e0 m0, _, rfl, _, _, rfl, rfl, lz, _, rfl, _, rfl, d, f, ckey (lst3 n x y e0.1 (97 + j)), kvs', rfl, rfl, J.dd, J.ok, h3, kz, ?_⟩
            rw [str_app]
            obtain ⟨r1, J', T, ol⟩ := J.put d0 hr0 (by rw [List.length_append]; omega) (wd := e0.2 ++ [97 + j]) h3 nn
            refine ⟨_, rfl, .inl ⟨rfl, _, SqL.of r1⟩, _, rfl, r, _, _, rfl, rfl, r1, vz, ?_⟩
            refine ⟨_, more ++ [(lst3 n x y e0.1 (97 + j), e0.2 ++ [97 + j])], _, _, _, rfl, by rw [← List.append_assoc]; exact J', chr_mono T pl, ol _ _ lr hl, T _ _ hp, by rw [← List.append_assoc]; exact bf.new hj h0 hno⟩
        · rintro σ G' ⟨kvs', more, vs, w5, w6, rfl, J, pl, hl, hp, bf⟩
          rw [abc_size] at bf
          exact ⟨kvs', more, vs, _, _, _, rfl, J, pl, hl, bf.next⟩
      · rintro σ G' ⟨kvs', more, vs, w4, w5, w6, rfl, J, pl, hl, bf⟩
        have eb : b + ws.length = es.length := by omega
        rw [eb] at bf
        exact ⟨_, rfl, _, by omega, r, kvs', es ++ more, vs, es.length, _, _, _, _, rfl, rfl, by rw [List.length_append]; omega, J, bf⟩
set_option maxHeartbeats 8000000 in
theorem ok_rules {f : Addr} {fd : FuncData} (F : Fun K "rules" "rules" s_rules f fd) (T : Txt K mg) (C_led : Has P w K mg base 3 "led" ["sort", "chord", "word"] (sp_led w K)) (C_shortest_words : Has P w K mg base 4 "shortest_words" ["sort"] (sp_shortest_words w K)) : FnOk P w K mg base CX0 5 f fd ["sort"] (sp_rules w K) := by
  refine F.ok sc_rules (fun vs H Q E h => ?_) (fun cdv A outer s H vs Q E hr h => ?_)
  · obtain ⟨s, n, x, y, rfl, hs, n3, n24, x1, y1, xy, q⟩ := h
    rfl
  · obtain ⟨s, n, x, y, rfl, hs, n3, n24, x1, y1, xy, q⟩ := h
    obtain ⟨u_LETTERS, hm_LETTERS, rv_LETTERS⟩ := T.g_LETTERS
    refine ⟨_, (@pss_cons _ _ _ _ _ (@ps_set _ _ 1 _ _ _ _ sc_rules.nd rfl (Or.inl rfl) (@pe_callH _ _ _ _ _ _ _ _ _ _ C_shortest_words (hr.mono (by decide)) rfl (@pa_cons _ _ _ _ _ (pv 0) pa_nil (by rfl)) (by decide) (by rfl) (by rfl)) (by rfl) (by first | exact Or.inl rfl | exact Or.inr rfl))
      (@pss_cons _ _ _ _ _ (@ps_set _ _ 2 _ _ _ _ sc_rules.nd rfl (Or.inl rfl) (@pe_lst _ _ _ _ pa_nil) (by rfl) (by first | exact Or.inl rfl | exact Or.inr rfl))
      (@pss_cons _ _ _ _ _ (ps_for PassesOwn.never rfl (pi_items (pv 1)) (pg_tup rfl (pgs_cons (pg_name (i := 3) sc_rules.nd rfl (Or.inl rfl)) (pgs_cons (pg_name (i := 4) sc_rules.nd rfl (Or.inl rfl)) pgs_nil)))
        (@pss_one _ _ _ (ps_for PassesOwn.never rfl (pi_str (pe_glob (v := V.str "abc") (by rfl) hm_LETTERS rv_LETTERS)) (pg_name (i := 5) sc_rules.nd rfl (Or.inl rfl))
          (@pss_cons _ _ _ _ _ (@ps_set _ _ 6 _ _ _ _ sc_rules.nd rfl (Or.inl rfl) (pe_xgetE (units1 hr) (pv 1) (@pe_callH _ _ _ _ _ _ _ _ _ _ C_led (hr.mono (by decide)) rfl (@pa_cons _ _ _ _ _ (pv 0) (@pa_cons _ _ _ _ _ (pv 3) (@pa_cons _ _ _ _ _ (pv 5) pa_nil (by rfl)) (by rfl)) (by rfl)) (by decide) (by rfl) (by rfl)) (fun _ _ => rfl)) (by rfl) (by first | exact Or.inl rfl | exact Or.inr rfl))
          (@pss_one _ _ _ (@ps_if _ _ _ _ _ _ _ _ (@pt_cmpR _ _ _ _ _ _ _ _ op_ne (pv 6) (@pe_op _ _ _ _ _ _ _ _ op_add_str (pv 4) (pv 5)) (nomark _))
            (@pss_one _ _ _ (ps_expr (pe_bm PySem.F.plainAttrs_list PySem.F.slot_list_append PySem.F.type_list_append mt_append (pv 2) (@pa_cons _ _ _ _ _ (@pe_tup _ _ _ _ _ (@pa_cons _ _ _ _ _ (@pe_op _ _ _ _ _ _ _ _ op_add_str (pv 4) (pv 5)) (@pa_cons _ _ _ _ _ (pv 6) pa_nil (by rfl)) (by rfl))) pa_nil (by rfl)))))
            pss_nil))))))
      (@pss_one _ _ _ (@ps_ret _ _ _ _ (pv 2)))))), ?_⟩
    have hn : 0 < n := by omega
    refine ⟨_, rfl, s, n, x, y, rfl, hs, n3, n24, x1, y1, xy, fun d kvs es H1 d0 s1 hd ok ke bf => ?_⟩
    refine ⟨(by show 0 ≤ sizeLine; decide), fun l l0 => ?_⟩
    obtain ⟨sL, hL⟩ := new_all (o := .lst []) l0
    have l0' : H l = none := s1.free l0
    have dl : d ≠ l := ne_of_none hd l0
    refine ⟨_, rfl, d, kvs, rfl, sL _ _ hd, fun ep => ?_⟩
    have bd := bf_bound hn n24 bf
    have lk := kes_len ke
    have bth := kes_both ke bf.inj
    have S1 : Same H (upd (upd H1 l (.lst [])) d (dE w d kvs ep)) := (s1.trans sL).upd d0
    have T1 : TK K H1 (upd (upd H1 l (.lst [])) d (dE w d kvs ep)) := (TK.same sL).trans (TK.updX (sL _ _ hd))
    refine for_items (fun i σ G => ∃ (ws : List V) (w3 w4 w5 w6 : Option V), σ = [some (.ref s), some (.ref d), some (.ref l), w3, w4, w5, w6] ∧ Same H G ∧ G d = some (dE w d kvs ep) ∧ KeysOk K G kvs ∧ G l = some (.lst ws) ∧ Paired (RuleR G) ws (rls n x y es (es.take i))) ⟨[], _, _, _, _, rfl, S1, upd_same, ok.mono T1, by rw [upd_ne (Ne.symm dl)]; exact hL, .nil⟩ ?_ ?_ ?_
    · rintro i σ G _ ⟨ws, w3, w4, w5, w6, rfl, sG, hd, _⟩
      exact hd
    · rintro i q0 σ G hq ⟨ws, w3, w4, w5, w6, rfl, sG, hd, ok, hl, pr⟩ T T0
      have hi : i < es.length := by
        rw [← lk]
        exact (List.getElem?_eq_some_iff.mp hq).1
      have h0 : es[i]? = some es[i] := List.getElem?_eq_getElem hi
      have htk : es.take (i + 1) = es.take i ++ [es[i]] := by rw [List.take_add_one, h0]; rfl
      generalize es[i] = e0 at h0 htk
      have m0 := List.mem_of_getElem? h0
      have he0 := bf.len e0 m0
      have hqe : q0.1 = ckey e0.1 ∧ q0.2.2 = V.str ⟨e0.2.toArray⟩ := by
        have := congrArg (fun l => l[i]?) ke
        rw [List.getElem?_map, List.getElem?_map, h0, hq] at this
        have := Option.some.inj this
        exact ⟨congrArg (·.1) this, congrArg (·.2) this⟩
      have hp : SqT K G q0.2.1 (chd e0.1) := by
        have := ok q0 (List.mem_of_getElem? hq)
        rw [hqe.1] at this
        exact this
      rw [hqe.2]
      obtain ⟨sT, hT⟩ := new_all (o := .tup [V.ref q0.2.1, V.str ⟨e0.2.toArray⟩]) T0
      generalize q0.2.1 = p at *
      refine ⟨T, _, rfl, SqT.of hT, rfl, _, _, rfl, _, _, rfl, rfl, ?_⟩
      have sG := sG.trans sT
      have hd := sT _ _ hd
      have ok := ok.mono (TK.same sT)
      have hl := sT _ _ hl
      have pr := rule_mono sT.tk pr
      have hp := TK.same sT _ _ hp
      generalize upd G T (.tup [V.ref p, V.str ⟨e0.2.toArray⟩]) = G at *
      have lr := rls_len n x y es (es.take i)
      rw [List.length_take] at lr
      refine ⟨"abc", rfl, (by decide +kernel), for_str (fun j σ G => ∃ (ws : List V) (w5 w6 : Option V), σ = [some (.ref s), some (.ref d), some (.ref l), some (.ref p), some (.str ⟨e0.2.toArray⟩), w5, w6] ∧ Same H G ∧ G d = some (dE w d kvs ep) ∧ KeysOk K G kvs ∧ G l = some (.lst ws) ∧ Paired (RuleR G) ws (rls n x y es (es.take i) ++ rl1 n x y es e0 ([97, 98, 99].take j)) ∧ SqT K G p (chd e0.1)) ⟨ws, _, _, rfl, sG, hd, ok, hl, by simpa [rl1] using pr, hp⟩ ?_ ?_⟩
      · rintro j c σ G hc ⟨ws, w5, w6, rfl, sG, hd, ok, hl, pr, hp⟩
        obtain ⟨hj, rfl⟩ := abc_at hc
        have lw := prd_len pr
        have l1 := rl1_len n x y es e0 ([97, 98, 99].take j)
        rw [List.length_append] at lw
        rw [List.length_take] at l1
        have l3 : [97, 98, 99].length = 3 := rfl
        have htj : [97, 98, 99].take (j + 1) = [97, 98, 99].take j ++ [97 + j] := by
          match j, hj with
          | 0, _ => rfl
          | 1, _ => rfl
          | 2, _ => rfl
        have more : rl1 n x y es e0 ([97, 98, 99].take (j + 1)) = rl1 n x y es e0 ([97, 98, 99].take j) ++ (if bst es (lst3 n x y e0.1 (97 + j)) = e0.2 ++ [97 + j] then [] else [(e0.2 ++ [97 + j], bst es (lst3 n x y e0.1 (97 + j)))]) := by
          unfold rl1
          rw [htj, List.filter_append, List.map_append]
          congr 1
          by_cases z : bst es (lst3 n x y e0.1 (97 + j)) = e0.2 ++ [97 + j]
          · rw [if_pos z, List.filter_cons_of_neg (by rw [decide_eq_true z]; exact Bool.false_ne_true)]
            rfl
          · rw [if_neg z, List.filter_cons_of_pos (by rw [decide_eq_false z]; rfl)]
            rfl
        have abc1 : ∀ c ∈ e0.2 ++ [97 + j], c = 97 ∨ c = 98 ∨ c = 99 := fun c hc => by
          rcases List.mem_append.mp hc with z | z
          · exact bf.abc e0 m0 c z
          · rw [List.mem_singleton.mp z]; omega
        obtain ⟨e', he', ek, _⟩ := bf.full abc1
        have ek : e'.1 = lst3 n x y e0.1 (97 + j) := by
          rw [ek, List.foldl_append, bf.wk e0 m0]
          rfl
        have eb : bst es (lst3 n x y e0.1 (97 + j)) = e'.2 := by rw [← ek]; exact bst_of bf he'
        have le' := bf.len e' he'
        refine ⟨_, rfl, _, rfl, _, rfl, _, rfl, s, p, n, x, y, e0.1, [97 + j], rfl, sG _ _ hs, n3, n24, x1, y1, xy, hp, bd.2 e0 m0, (fun c hc => by rw [List.mem_singleton.mp hc]; omega), (by show 1 ≤ 1000; decide), fun f G3 s3 h3 _ => ?_⟩
        have h3 : SqT K G3 f (chd (lst3 n x y e0.1 (97 + j))) := h3
        have ok3 := ok.mono (TK.same s3)
        have hd3 := s3 _ _ hd
        have hl3 := s3 _ _ hl
        rw [← ek] at h3
        have lz : (⟨e0.2.toArray⟩ : Str).length + (⟨#[97 + j]⟩ : Str).length ≤ sizeLine := by
          show e0.2.length + 1 ≤ sizeLine
          exact fit1000 (by omega)
        refine ⟨d, f, ckey e'.1, kvs, ep, _, rfl, rfl, hd3, ok3, h3, bth.1 e' he', ?_⟩
        refine ⟨_, rfl, _, rfl, _, rfl, _, _, rfl, rfl, lz, rfl, _, rfl, ?_⟩
        rw [str_app]
        by_cases z : e'.2 = e0.2 ++ [97 + j]
        · refine ifn (by rw [z, decide_eq_true rfl]; rfl) ?_
          refine ⟨ws, _, _, rfl, sG.trans s3, hd3, ok3, hl3, ?_, TK.same s3 _ _ hp⟩
          rw [more, if_pos (eb.trans z), List.append_nil]
          exact rule_mono s3.tk pr
        · refine ifp (by rw [decide_eq_false (fun q => z (by simpa using congrArg (fun v => match v with | V.str x => x.cps.toList | _ => []) q))]; rfl) ?_
          refine ⟨_, rfl, .inl ⟨rfl, _, SqL.of hl3⟩, _, rfl, _, rfl, _, _, rfl, rfl, lz, _, rfl, two_fit, fun r r0 => ?_⟩
          rw [str_app]
          obtain ⟨sR, hR⟩ := new_all (o := .tup [V.str ⟨(e0.2 ++ [97 + j]).toArray⟩, V.str ⟨e'.2.toArray⟩]) r0
          refine ⟨l, _, _, rfl, rfl, sR _ _ hl3, fit999 (by omega), ?_⟩
          have hdR := sR _ _ hd3
          have okR := ok3.mono (TK.same sR)
          have hlR := sR _ _ hl3
          have prR := rule_mono (s3.tk.trans sR.tk) pr
          have hpR := TK.same (s3.trans sR) _ _ hp
          have sGR := sG.trans (s3.trans sR)
          generalize upd G3 r (.tup [V.str ⟨(e0.2 ++ [97 + j]).toArray⟩, V.str ⟨e'.2.toArray⟩]) = G5 at *
          have tL : TK K G5 (upd G5 l (.lst (ws ++ [.ref r]))) := TK.updL hlR
          have tU : TupKeep G5 (upd G5 l (.lst (ws ++ [.ref r]))) := TupKeep.upd fun zs e => by rw [hlR] at e; cases e
          refine ⟨ws ++ [.ref r], _, _, rfl, sGR.upd l0', by rw [upd_ne dl]; exact hdR, okR.mono tL, upd_same, ?_, tL _ _ hpR⟩
          rw [more, if_neg (fun q => z (eb.symm.trans q)), eb, ← List.append_assoc]
          exact prd_append (rule_mono tU prR) (.cons ⟨r, rfl, tU _ _ hR⟩ .nil)
      · rintro σ G ⟨ws, w5, w6, rfl, sG, hd, ok, hl, pr, hp⟩
        refine ⟨ws, _, _, _, _, rfl, sG, hd, ok, hl, ?_⟩
        rw [htk]
        unfold rls at pr ⊢
        rw [List.flatMap_append, List.flatMap_singleton]
        exact pr
    · rintro σ G ⟨ws, w3, w4, w5, w6, rfl, sG, hd, ok, hl, pr⟩
      rw [lk, List.take_length] at pr
      exact ⟨_, rfl, q l ws es G l0' sG hl bf pr⟩
set_option maxHeartbeats 8000000 in
theorem ok_l_cell_at {f : Addr} {fd : FuncData} (F : Fun K "_law_cell_at" "_law_cell_at" s_l_cell_at f fd) (T : Txt K mg)  : FnOk P w K mg base CX0 1 f fd ["_law_script", "_law_k"] (sp_l_cell_at w K) := by
  refine F.ok sc_l_cell_at (fun vs H Q E h => ?_) (fun cdv A outer s H vs Q E hr h => ?_)
  · obtain ⟨a, ns, k, rfl, hS, hl, q⟩ := h
    rfl
  · obtain ⟨a, ns, k, rfl, hS, hl, q⟩ := h
    refine ⟨_, (@pss_cons _ _ _ _ _ (@ps_if _ _ _ _ _ _ _ _ (@pt_cmpR _ _ _ _ _ _ _ _ op_eq (pe_callB call_len_seq (by rfl) T.b_len PySem.boot_len (@pa_cons _ _ _ _ _ (pv 0) pa_nil (by rfl))) pe_int (nomark _))
        (@pss_one _ _ _ (@ps_ret _ _ _ _ pe_int))
        pss_nil)
      (@pss_one _ _ _ (@ps_ret _ _ _ _ (@pe_ix _ _ _ _ _ _ _ ix_list (pv 0) (@pe_op _ _ _ _ _ _ _ _ op_mod (pv 1) (pe_callB call_len_seq (by rfl) T.b_len PySem.boot_len (@pa_cons _ _ _ _ _ (pv 0) pa_nil (by rfl)))) (fun _ _ => rfl))))), ?_⟩
    have hlen : (ns.map V.int).length = ns.length := List.length_map _
    refine ⟨_, rfl, a, _, rfl, .inl hS, rfl, _, rfl, ?_⟩
    refine if2 (fun _ => q 0) (fun e => ?_)
    have e := of_eqF e
    have hp : (0 : Int) < ((ns.map V.int).length : Int) := by omega
    obtain ⟨c, _, hc⟩ := atI_int (ns := ns) (i := k % ((ns.map V.int).length : Int)) (mod_lo _ hp) (by rw [← hlen]; exact mod_hi _ hp)
    exact ⟨_, rfl, _, rfl, _, rfl, a, _, rfl, .inl hS, _, _, rfl, rfl, hp, a, _, _, _, rfl, rfl, hS, hc, q c⟩
set_option maxHeartbeats 8000000 in
theorem ok_l_mixed {f : Addr} {fd : FuncData} (F : Fun K "_law_mixed" "_law_mixed" s_l_mixed f fd) (T : Txt K mg) (C_l_cell_at : Has P w K mg base 1 "_law_cell_at" ["_law_script", "_law_k"] (sp_l_cell_at w K)) : FnOk P w K mg base CX0 2 f fd ["_law_script", "_law_k", "_law_salt"] (sp_l_mixed w K) := by
  refine F.ok sc_l_mixed (fun vs H Q E h => ?_) (fun cdv A outer s H vs Q E hr h => ?_)
  · obtain ⟨a, ns, k, z, rfl, hS, hl, ⟨k0, k1⟩, ⟨z0, z1⟩, q⟩ := h
    rfl
  · obtain ⟨a, ns, k, z, rfl, hS, hl, ⟨k0, k1⟩, ⟨z0, z1⟩, q⟩ := h
    refine ⟨_, (@pss_cons _ _ _ _ _ (@ps_set _ _ 3 _ _ _ _ sc_l_mixed.nd rfl (Or.inl rfl) (@pe_callH _ _ _ _ _ _ _ _ _ _ C_l_cell_at (hr.mono (by decide)) rfl (@pa_cons _ _ _ _ _ (pv 0) (@pa_cons _ _ _ _ _ (pv 1) pa_nil (by rfl)) (by rfl)) (by decide) (by rfl) (by rfl)) (by rfl) (by first | exact Or.inl rfl | exact Or.inr rfl))
      (@pss_cons _ _ _ _ _ (@ps_set _ _ 4 _ _ _ _ sc_l_mixed.nd rfl (Or.inl rfl) (@pe_op _ _ _ _ _ _ _ _ op_fdiv (pv 1) (pe_callB (call_max2 rfl) (by rfl) T.b_max PyProof.Rows.boot_max (@pa_cons _ _ _ _ _ pe_int (@pa_cons _ _ _ _ _ (pe_callB call_len_seq (by rfl) T.b_len PySem.boot_len (@pa_cons _ _ _ _ _ (pv 0) pa_nil (by rfl))) pa_nil (by rfl)) (by rfl)))) (by rfl) (by first | exact Or.inl rfl | exact Or.inr rfl))
      (@pss_cons _ _ _ _ _ (@ps_set _ _ 5 _ _ _ _ sc_l_mixed.nd rfl (Or.inl rfl) (@pe_op _ _ _ _ _ _ _ _ op_add (@pe_op _ _ _ _ _ _ _ _ op_add (@pe_op _ _ _ _ _ _ _ _ op_add (@pe_op _ _ _ _ _ _ _ _ op_and (pv 3) pe_int) (@pe_op _ _ _ _ _ _ _ _ op_mul (@pe_op _ _ _ _ _ _ _ _ op_mul pe_int (pv 1)) (pv 1))) (@pe_op _ _ _ _ _ _ _ _ op_mul (@pe_op _ _ _ _ _ _ _ _ op_mul pe_int (pv 2)) (pv 2))) pe_int) (by rfl) (by first | exact Or.inl rfl | exact Or.inr rfl))
      (@pss_cons _ _ _ _ _ (@ps_set _ _ 5 _ _ _ _ sc_l_mixed.nd rfl (Or.inl rfl) (@pe_op _ _ _ _ _ _ _ _ op_mod (@pe_op _ _ _ _ _ _ _ _ op_mul (pv 5) pe_int) pe_int) (by rfl) (by first | exact Or.inl rfl | exact Or.inr rfl))
      (@pss_cons _ _ _ _ _ (@ps_set _ _ 5 _ _ _ _ sc_l_mixed.nd rfl (Or.inl rfl) (@pe_op _ _ _ _ _ _ _ _ op_mod (@pe_op _ _ _ _ _ _ _ _ op_mul (pv 5) (pv 5)) pe_int) (by rfl) (by first | exact Or.inl rfl | exact Or.inr rfl))
      (@pss_one _ _ _ (@ps_ret _ _ _ _ (@pe_op _ _ _ _ _ _ _ _ op_and (@pe_op _ _ _ _ _ _ _ _ op_add (@pe_op _ _ _ _ _ _ _ _ op_shr (pv 3) (@pe_op _ _ _ _ _ _ _ _ op_mul pe_int (@pe_op _ _ _ _ _ _ _ _ op_add (pv 2) (@pe_op _ _ _ _ _ _ _ _ op_mul pe_int (pv 4))))) (pv 5)) pe_int)))))))), ?_⟩
    have hlen : (ns.map V.int).length = ns.length := List.length_map _
    -- cell
    refine ⟨_, rfl, _, rfl, a, ns, k, rfl, hS, hl, fun c => ?_⟩
    -- lap
    have hm : CDiv k (if (((ns.map V.int).length : Nat) : Int) > 1 then (((ns.map V.int).length : Nat) : Int) else 1) := by
      show 0 < (if (((ns.map V.int).length : Nat) : Int) > 1 then (((ns.map V.int).length : Nat) : Int) else 1) ∧ (if (((ns.map V.int).length : Nat) : Int) > 1 then (((ns.map V.int).length : Nat) : Int) else 1) < 1073741824
      rw [hlen]
      split <;> omega
    refine ⟨_, rfl, _, rfl, a, _, rfl, .inl hS, _, _, rfl, _, _, rfl, rfl, hm, ?_⟩
    have lap0 : 0 ≤ k / (if (((ns.map V.int).length : Nat) : Int) > 1 then (((ns.map V.int).length : Nat) : Int) else 1) := Int.ediv_nonneg k0 (Int.le_of_lt hm.1)
    -- near
    refine ⟨_, rfl, _, _, rfl, rfl, _, rfl, _, _, rfl, rfl, .inl ⟨by decide, by decide⟩, _, rfl, _, _, rfl, rfl, .inr ⟨by omega, by omega⟩, _, _, rfl, rfl, _, rfl, _, _, rfl, rfl, .inl ⟨by decide, by decide⟩, _, rfl, _, _, rfl, rfl, .inr ⟨by omega, by omega⟩, _, _, rfl, rfl, _, _, rfl, rfl, ?_⟩
    refine ⟨_, rfl, _, _, rfl, rfl, .inr ⟨by decide, by decide⟩, _, _, rfl, rfl, (by show (0 : Int) < 2147483647; decide), ?_⟩
    refine ⟨_, rfl, _, rfl, _, _, rfl, rfl, .inl ⟨by omega, by omega⟩, _, _, rfl, rfl, (by show (0 : Int) < 2147483629; decide), ?_⟩
    -- the answer
    refine ⟨_, rfl, _, rfl, _, rfl, _, _, rfl, rfl, .inl ⟨by decide, by decide⟩, _, _, rfl, rfl, _, _, rfl, rfl, .inl ⟨by decide, by decide⟩, _, _, rfl, rfl, (by omega), _, rfl, _, _, rfl, rfl, _, _, rfl, rfl, ?_⟩
    exact q _ (by rw [mask31 (_ + _)]; exact mod_lo _ (by decide)) (by rw [mask31 (_ + _)]; exact mod_hi _ (by decide))
set_option maxHeartbeats 8000000 in
theorem ok_l_wheel {f : Addr} {fd : FuncData} (F : Fun K "_law_wheel" "_law_wheel" s_l_wheel f fd) (T : Txt K mg) (C_l_mixed : Has P w K mg base 2 "_law_mixed" ["_law_script", "_law_k", "_law_salt"] (sp_l_mixed w K)) : FnOk P w K mg base CX0 3 f fd ["_law_script", "_law_most"] (sp_l_wheel w K) := by
  refine F.ok sc_l_wheel (fun vs H Q E h => ?_) (fun cdv A outer s H vs Q E hr h => ?_)
  · obtain ⟨a, ns, rfl, hS, hl, q⟩ := h
    rfl
  · obtain ⟨a, ns, rfl, hS, hl, q⟩ := h
    refine ⟨_, (@pss_one _ _ _ (@ps_ret _ _ _ _ (@pe_op _ _ _ _ _ _ _ _ op_add pe_int (@pe_op _ _ _ _ _ _ _ _ op_mod (@pe_callH _ _ _ _ _ _ _ _ _ _ C_l_mixed (hr.mono (by decide)) rfl (@pa_cons _ _ _ _ _ (pv 0) (@pa_cons _ _ _ _ _ pe_int (@pa_cons _ _ _ _ _ pe_int pa_nil (by rfl)) (by rfl)) (by rfl)) (by decide) (by rfl) (by rfl)) (@pe_op _ _ _ _ _ _ _ _ op_sub (pv 1) pe_int))))), ?_⟩
    refine ⟨_, rfl, a, ns, 0, 1, rfl, hS, hl, ⟨by decide, by decide⟩, ⟨by decide, by decide⟩, fun c c0 c1 => ?_⟩
    refine ⟨_, rfl, _, _, rfl, rfl, _, _, rfl, rfl, (by show (0 : Int) < 24 - 2; decide), _, _, rfl, rfl, ?_⟩
    have h0 := mod_lo c (n := 24 - 2) (by decide)
    have h1 := mod_hi c (n := 24 - 2) (by decide)
    exact q _ (by omega) (by omega)
set_option maxHeartbeats 8000000 in
theorem ok_l_sort {f : Addr} {fd : FuncData} (F : Fun K "_law_sort" "_law_sort" s_l_sort f fd) (T : Txt K mg) (C_l_mixed : Has P w K mg base 2 "_law_mixed" ["_law_script", "_law_k", "_law_salt"] (sp_l_mixed w K)) (C_l_wheel : Has P w K mg base 3 "_law_wheel" ["_law_script", "_law_most"] (sp_l_wheel w K)) : FnOk P w K mg base CX0 4 f fd ["_law_script", "_law_most"] (sp_l_sort w K) := by
  refine F.ok sc_l_sort (fun vs H Q E h => ?_) (fun cdv A outer s H vs Q E hr h => ?_)
  · obtain ⟨a, ns, rfl, hS, hl, q⟩ := h
    rfl
  · obtain ⟨a, ns, rfl, hS, hl, q⟩ := h
    refine ⟨_, (@pss_cons _ _ _ _ _ (@ps_set _ _ 2 _ _ _ _ sc_l_sort.nd rfl (Or.inl rfl) (@pe_callH _ _ _ _ _ _ _ _ _ _ C_l_wheel (hr.mono (by decide)) rfl (@pa_cons _ _ _ _ _ (pv 0) (@pa_cons _ _ _ _ _ (pv 1) pa_nil (by rfl)) (by rfl)) (by decide) (by rfl) (by rfl)) (by rfl) (by first | exact Or.inl rfl | exact Or.inr rfl))
      (@pss_cons _ _ _ _ _ (@ps_set _ _ 3 _ _ _ _ sc_l_sort.nd rfl (Or.inl rfl) (@pe_op _ _ _ _ _ _ _ _ op_add pe_int (@pe_op _ _ _ _ _ _ _ _ op_mod (@pe_callH _ _ _ _ _ _ _ _ _ _ C_l_mixed (hr.mono (by decide)) rfl (@pa_cons _ _ _ _ _ (pv 0) (@pa_cons _ _ _ _ _ pe_int (@pa_cons _ _ _ _ _ pe_int pa_nil (by rfl)) (by rfl)) (by rfl)) (by decide) (by rfl) (by rfl)) (@pe_op _ _ _ _ _ _ _ _ op_sub (pv 2) pe_int))) (by rfl) (by first | exact Or.inl rfl | exact Or.inr rfl))
      (@pss_one _ _ _ (@ps_ret _ _ _ _ (@pe_tup _ _ _ _ _ (@pa_cons _ _ _ _ _ (pv 2) (@pa_cons _ _ _ _ _ (pv 3) (@pa_cons _ _ _ _ _ (@pe_op _ _ _ _ _ _ _ _ op_add pe_int (@pe_op _ _ _ _ _ _ _ _ op_mod (@pe_callH _ _ _ _ _ _ _ _ _ _ C_l_mixed (hr.mono (by decide)) rfl (@pa_cons _ _ _ _ _ (pv 0) (@pa_cons _ _ _ _ _ pe_int (@pa_cons _ _ _ _ _ pe_int pa_nil (by rfl)) (by rfl)) (by rfl)) (by decide) (by rfl) (by rfl)) (@pe_op _ _ _ _ _ _ _ _ op_sub (@pe_op _ _ _ _ _ _ _ _ op_sub (pv 2) pe_int) (pv 3)))) pa_nil (by rfl)) (by rfl)) (by rfl))))))), ?_⟩
    refine ⟨_, rfl, _, rfl, a, ns, rfl, hS, hl, fun n n3 n24 => ?_⟩
    refine ⟨_, rfl, a, ns, 0, 2, rfl, hS, hl, ⟨by decide, by decide⟩, ⟨by decide, by decide⟩, fun c c0 c1 => ?_⟩
    have h2 : 0 < n - 2 := by omega
    have x0 := mod_lo c h2
    have x1 := mod_hi c h2
    refine ⟨_, rfl, _, _, rfl, rfl, _, _, rfl, rfl, h2, _, _, rfl, rfl, ?_⟩
    dsimp only
    obtain ⟨x, ex⟩ : ∃ x : Int, x = 1 + c % (n - 2) := ⟨_, rfl⟩
    rw [← ex]
    refine ⟨_, rfl, _, rfl, _, rfl, a, ns, 0, 3, rfl, hS, hl, ⟨by decide, by decide⟩, ⟨by decide, by decide⟩, fun d d0 d1 => ?_⟩
    have h3 : 0 < n - 1 - x := by omega
    have y0 := mod_lo d h3
    have y1 := mod_hi d h3
    refine ⟨_, rfl, _, _, rfl, rfl, _, rfl, _, _, rfl, rfl, _, _, rfl, rfl, h3, _, _, rfl, rfl, (by show 3 ≤ sizeLine; decide), fun r r0 => ?_⟩
    exact q n x _ n3 n24 (by omega) (by omega) (by omega) r _ (Same.new r0) upd_same
set_option maxHeartbeats 8000000 in
theorem ok_l_letter {f : Addr} {fd : FuncData} (F : Fun K "_law_letter" "_law_letter" s_l_letter f fd) (T : Txt K mg)  : FnOk P w K mg base CX0 1 f fd ["_law_sort_here", "_law_chord", "_law_letter_here"] (sp_l_letter w K) := by
  refine F.ok sc_l_letter (fun vs H Q E h => ?_) (fun cdv A outer s H vs Q E hr h => ?_)
  · obtain ⟨s, p, n, x, y, k, c, rfl, hs, hp, hc, hn, hx, hy, q⟩ := h
    rfl
  · obtain ⟨s, p, n, x, y, k, c, rfl, hs, hp, hc, hn, hx, hy, q⟩ := h
    refine ⟨_, (@pss_cons _ _ _ _ _ (ps_asg (pv 0) (pg_tup rfl (pgs_cons (pg_name (i := 3) sc_l_letter.nd rfl (Or.inl rfl)) (pgs_cons (pg_name (i := 4) sc_l_letter.nd rfl (Or.inl rfl)) (pgs_cons (pg_name (i := 5) sc_l_letter.nd rfl (Or.inl rfl)) pgs_nil)))))
      (@pss_cons _ _ _ _ _ (ps_asg (pv 1) (pg_tup rfl (pgs_cons (pg_name (i := 6) sc_l_letter.nd rfl (Or.inl rfl)) (pgs_cons (pg_name (i := 7) sc_l_letter.nd rfl (Or.inl rfl)) pgs_nil))))
      (@pss_cons _ _ _ _ _ (@ps_if _ _ _ _ _ _ _ _ (@pt_cmpR _ _ _ _ _ _ _ _ op_eq (pv 2) pe_str (nomark _))
        (@pss_one _ _ _ (@ps_set _ _ 6 _ _ _ _ sc_l_letter.nd rfl (Or.inl rfl) (@pe_op _ _ _ _ _ _ _ _ op_sub (@pe_op _ _ _ _ _ _ _ _ op_add (pv 6) (pv 4)) (@pe_op _ _ _ _ _ _ _ _ op_mul (@pe_op _ _ _ _ _ _ _ _ op_mul pe_int (pv 4)) (pe_callTy call_int1 (by rfl) T.b_int PyProof.Rows.boot_int (@pa_cons _ _ _ _ _ (@pe_cmpR _ _ _ _ _ _ _ _ op_eq (pv 7) pe_str (nomark _)) pa_nil (by rfl))))) (by rfl) (by first | exact Or.inl rfl | exact Or.inr rfl)))
        pss_nil)
      (@pss_cons _ _ _ _ _ (@ps_if _ _ _ _ _ _ _ _ (@pt_cmpR _ _ _ _ _ _ _ _ op_eq (pv 2) pe_str (nomark _))
        (@pss_one _ _ _ (@ps_set _ _ 6 _ _ _ _ sc_l_letter.nd rfl (Or.inl rfl) (@pe_op _ _ _ _ _ _ _ _ op_add (@pe_op _ _ _ _ _ _ _ _ op_sub (pv 6) (pv 5)) (@pe_op _ _ _ _ _ _ _ _ op_mul (@pe_op _ _ _ _ _ _ _ _ op_mul pe_int (pv 5)) (pe_callTy call_int1 (by rfl) T.b_int PyProof.Rows.boot_int (@pa_cons _ _ _ _ _ (@pe_cmpR _ _ _ _ _ _ _ _ op_eq (pv 7) pe_str (nomark _)) pa_nil (by rfl))))) (by rfl) (by first | exact Or.inl rfl | exact Or.inr rfl)))
        pss_nil)
      (@pss_one _ _ _ (@ps_ret _ _ _ _ (@pe_tup _ _ _ _ _ (@pa_cons _ _ _ _ _ (@pe_op _ _ _ _ _ _ _ _ op_mod (pv 6) (pv 3)) (@pa_cons _ _ _ _ _ (@pe_ix _ _ _ _ _ _ _ ix_list (@pe_lst _ _ _ _ (@pa_cons _ _ _ _ _ pe_str (@pa_cons _ _ _ _ _ pe_str pa_nil (by rfl)) (by rfl))) (pe_callTy call_int1 (by rfl) T.b_int PyProof.Rows.boot_int (@pa_cons _ _ _ _ _ (@pe_cmpR _ _ _ _ _ _ _ _ op_eq (pv 7) pe_str (nomark _)) pa_nil (by rfl))) (fun _ _ => rfl)) pa_nil (by rfl)) (by rfl))))))))), ?_⟩
    obtain ⟨root, u⟩ := k
    refine ⟨_, rfl, s, _, rfl, SqT.of hs, rfl, _, _, rfl, _, _, rfl, _, _, rfl, rfl, ?_⟩
    refine ⟨_, rfl, p, _, rfl, hp, rfl, _, _, rfl, _, _, rfl, rfl, ?_⟩
    have fin : ∀ (z : Int), z % n = (ltr n x y c (root, u)).1 → ∀ (r : Addr) (H' : Hp), Same H H' → H' r = some (.tup [.int (z % n), .str (wS (!u))]) → Q (.ref r) H' := by
      intro z ez r H' sm hr
      rw [ez] at hr
      exact q r H' sm hr
    have gx : atI [V.str "down", V.str "up"] (if decide (V.str (wS u) = V.str "down") then 1 else 0) = some (.str (wS (!u))) := by
      rw [wS_down]
      cases u <;> rfl
    refine ⟨_, rfl, rfl, _, rfl, ?_⟩
    rw [sgn_b hc]
    refine if2 (fun eb => ?_) (fun eb => ?_)
    · have eb := of_decide_eq_true eb
      refine ⟨_, rfl, _, rfl, _, _, rfl, rfl, _, rfl, _, _, rfl, rfl, .inl ⟨by decide, by decide⟩, _, rfl, rfl, .inr ⟨_, rfl, _, _, rfl, rfl, .inl ⟨by omega, by omega⟩, _, _, rfl, rfl, ?_⟩⟩
      refine ⟨_, rfl, rfl, _, rfl, ?_⟩
      rw [sgn_c hc]
      refine ifn (by rw [eb]; rfl) ?_
      refine ⟨_, rfl, _, rfl, _, _, rfl, rfl, hn, two_fit, fun l l0 => ?_⟩
      refine ⟨_, rfl, rfl, .inr ⟨_, rfl, l, _, _, _, rfl, rfl, SqL.of upd_same, gx, two_fit, fun r r0 => ?_⟩⟩
      refine fin _ ?_ r _ ((Same.new l0).trans (Same.new r0)) upd_same
      rw [wS_down]
      unfold ltr
      rw [if_pos eb]
      cases u <;> simp <;> congr 1 <;> omega
    · have eb := of_decide_eq_false eb
      refine ⟨_, rfl, rfl, _, rfl, ?_⟩
      rw [sgn_c hc]
      refine if2 (fun ec => ?_) (fun ec => ?_)
      · have ec := of_decide_eq_true ec
        refine ⟨_, rfl, _, rfl, _, _, rfl, rfl, _, rfl, _, _, rfl, rfl, .inl ⟨by decide, by decide⟩, _, rfl, rfl, .inr ⟨_, rfl, _, _, rfl, rfl, .inl ⟨by omega, by omega⟩, _, _, rfl, rfl, ?_⟩⟩
        refine ⟨_, rfl, _, rfl, _, _, rfl, rfl, hn, two_fit, fun l l0 => ?_⟩
        refine ⟨_, rfl, rfl, .inr ⟨_, rfl, l, _, _, _, rfl, rfl, SqL.of upd_same, gx, two_fit, fun r r0 => ?_⟩⟩
        refine fin _ ?_ r _ ((Same.new l0).trans (Same.new r0)) upd_same
        rw [wS_down]
        unfold ltr
        rw [if_neg eb, if_pos ec]
        cases u <;> simp <;> congr 1 <;> omega
      · have ec := of_decide_eq_false ec
        refine ⟨_, rfl, _, rfl, _, _, rfl, rfl, hn, two_fit, fun l l0 => ?_⟩
        refine ⟨_, rfl, rfl, .inr ⟨_, rfl, l, _, _, _, rfl, rfl, SqL.of upd_same, gx, two_fit, fun r r0 => ?_⟩⟩
        refine fin _ ?_ r _ ((Same.new l0).trans (Same.new r0)) upd_same
        unfold ltr
        rw [if_neg eb, if_neg ec]
        simp
set_option maxHeartbeats 8000000 in
theorem ok_l_best {f : Addr} {fd : FuncData} (F : Fun K "_law_best" "_law_best" s_l_best f fd) (T : Txt K mg) (C_l_letter : Has P w K mg base 1 "_law_letter" ["_law_sort_here", "_law_chord", "_law_letter_here"] (sp_l_letter w K)) : FnOk P w K mg base CX0 2 f fd ["_law_sort_here"] (sp_l_best w K) := by
  refine F.ok sc_l_best (fun vs H Q E h => ?_) (fun cdv A outer s H vs Q E hr h => ?_)
  · obtain ⟨s, n, x, y, rfl, hs, n3, n24, x1, y1, xy, q⟩ := h
    rfl
  · obtain ⟨s, n, x, y, rfl, hs, n3, n24, x1, y1, xy, q⟩ := h
    refine ⟨_, (@pss_cons _ _ _ _ _ (@ps_set _ _ 1 _ _ _ _ sc_l_best.nd rfl (Or.inl rfl) (pe_xone hr.units0 (@pe_tup _ _ _ _ _ (@pa_cons _ _ _ _ _ pe_int (@pa_cons _ _ _ _ _ pe_str pa_nil (by rfl)) (by rfl))) pe_str) (by rfl) (by first | exact Or.inl rfl | exact Or.inr rfl))
      (@pss_cons _ _ _ _ _ (@ps_set _ _ 2 _ _ _ _ sc_l_best.nd rfl (Or.inl rfl) (@pe_lst _ _ _ _ (@pa_cons _ _ _ _ _ (@pe_tup _ _ _ _ _ (@pa_cons _ _ _ _ _ pe_int (@pa_cons _ _ _ _ _ pe_str pa_nil (by rfl)) (by rfl))) pa_nil (by rfl))) (by rfl) (by first | exact Or.inl rfl | exact Or.inr rfl))
      (@pss_cons _ _ _ _ _ (@ps_set _ _ 3 _ _ _ _ sc_l_best.nd rfl (Or.inl rfl) pe_int (by rfl) (by first | exact Or.inl rfl | exact Or.inr rfl))
      (@pss_cons _ _ _ _ _ (@ps_while _ _ _ _ _ _ PassesOwn.never (@pt_cmpR _ _ _ _ _ _ _ _ op_lt (pv 3) (pe_callB call_len_seq (by rfl) T.b_len PySem.boot_len (@pa_cons _ _ _ _ _ (pv 2) pa_nil (by rfl))) (nomark _))
        (@pss_cons _ _ _ _ _ (ps_for PassesOwn.never rfl (pi_str pe_str) (pg_name (i := 4) sc_l_best.nd rfl (Or.inl rfl))
          (@pss_cons _ _ _ _ _ (@ps_set _ _ 5 _ _ _ _ sc_l_best.nd rfl (Or.inl rfl) (@pe_callH _ _ _ _ _ _ _ _ _ _ C_l_letter (hr.mono (by decide)) rfl (@pa_cons _ _ _ _ _ (pv 0) (@pa_cons _ _ _ _ _ (@pe_ix _ _ _ _ _ _ _ ix_list (pv 2) (pv 3) (fun _ _ => rfl)) (@pa_cons _ _ _ _ _ (pv 4) pa_nil (by rfl)) (by rfl)) (by rfl)) (by decide) (by rfl) (by rfl)) (by rfl) (by first | exact Or.inl rfl | exact Or.inr rfl))
          (@pss_one _ _ _ (@ps_if _ _ _ _ _ _ _ _ (pt_cmp (pc_xnotin (units1 hr) (pv 5) (pv 1)))
            (@pss_cons _ _ _ _ _ (ps_xput (units1 hr) (pv 1) (pv 5) (@pe_op _ _ _ _ _ _ _ _ op_add_str (pe_xget (units1 hr) (pv 1) (@pe_ix _ _ _ _ _ _ _ ix_list (pv 2) (pv 3) (fun _ _ => rfl)) (fun _ _ => rfl)) (pv 4)) rfl)
            (@pss_one _ _ _ (ps_expr (pe_bm PySem.F.plainAttrs_list PySem.F.slot_list_append PySem.F.type_list_append mt_append (pv 2) (@pa_cons _ _ _ _ _ (pv 5) pa_nil (by rfl))))))
            pss_nil))))
        (@pss_one _ _ _ (@ps_set _ _ 3 _ _ _ _ sc_l_best.nd rfl (Or.inl rfl) (@pe_op _ _ _ _ _ _ _ _ op_add (pv 3) pe_int) (by rfl) (by first | exact Or.inl rfl | exact Or.inr rfl)))))
      (@pss_one _ _ _ (@ps_ret _ _ _ _ (pv 1))))))), ?_⟩
    have hn : 0 < n := by omega
    refine fun d d0 => ⟨two_fit, fun b b0 => ?_⟩
    have db : d ≠ b := ne_of_none upd_same b0
    refine ⟨b, ckey (0, true), rfl, by rw [upd_ne db]; exact upd_same, SqT.of upd_same, ?_⟩
    have bD := (Same.refl H).upd (o := dX w d []) d0
    have b0' : H b = none := bD.free b0
    have sD : Same H (upd (upd (upd H d (dX w d [])) b (.tup (chd (0, true)))) d (dX w d [(ckey (0, true), b, .str "")])) := (bD.upd b0').upd d0
    have hD : upd (upd (upd H d (dX w d [])) b (.tup (chd (0, true)))) d (dX w d [(ckey (0, true), b, .str "")]) d = some (dX w d [(ckey (0, true), b, .str "")]) := upd_same
    have hB : SqT K (upd (upd (upd H d (dX w d [])) b (.tup (chd (0, true)))) d (dX w d [(ckey (0, true), b, .str "")])) b (chd (0, true)) := SqT.of (by rw [upd_ne (Ne.symm db)]; exact upd_same)
    refine ⟨two_fit, fun t t0 => ⟨(by show 1 ≤ sizeLine; decide), fun l l0 => ?_⟩⟩
    obtain ⟨sT, hT⟩ := new_all (o := .tup (chd (0, true))) t0
    obtain ⟨sL, hL⟩ := new_all (o := .lst [V.ref t]) l0
    have l0' : H l = none := (sD.trans sT).free l0
    refine ⟨fun m σ G => ∃ (kvs : KX) (es : ES) (vs : List V) (i : Nat) (w4 w5 : Option V), σ = [some (.ref s), some (.ref d), some (.ref l), some (.int (i : Int)), w4, w5] ∧ m = 49 - i ∧ i ≤ es.length ∧ QInv w K H d l 0 kvs es vs G ∧ Bf (lst3 n x y) (0, true) es i 0, ⟨49, _, [((0, true), [])], _, 0, _, _, rfl, rfl, Nat.zero_le _, ⟨sD.trans (sT.trans sL), sL _ _ (sT _ _ hD), ?_, rfl, hL, .cons ⟨t, rfl, SqT.of (sL _ _ hT)⟩ .nil⟩, bf_start _ _⟩, ?_⟩
    · intro q hq
      rw [List.mem_singleton.mp hq]
      exact TK.same (sT.trans sL) _ _ hB
    rintro m σ G ⟨kvs, es, vs, i, w4, w5, rfl, rfl, hi, J, bf⟩
    have bd := bf_bound hn n24 bf
    have lv := prd_len J.vp
    rw [List.drop_zero] at lv
    refine ⟨_, rfl, _, rfl, l, _, rfl, .inl (SqL.of J.rr), _, _, rfl, rfl, _, rfl, ?_⟩
    by_cases hlt : i < es.length
    rotate_left
    · have e : i = es.length := by omega
      subst e
      refine ifn (decide_eq_false (by omega)) ?_
      exact ⟨_, rfl, q d kvs es G d0 J.sm J.dd J.ok J.ke bf⟩
    · refine ifp (decide_eq_true (by omega)) ?_
      refine ⟨fun σ' H' => ∃ m', m' < 49 - i ∧ ∃ (kvs : KX) (es : ES) (vs : List V) (i : Nat) (w4 w5 : Option V), σ' = [some (.ref s), some (.ref d), some (.ref l), some (.int (i : Int)), w4, w5] ∧ m' = 49 - i ∧ i ≤ es.length ∧ QInv w K H d l 0 kvs es vs H' ∧ Bf (lst3 n x y) (0, true) es i 0, fun _ _ z => z, ?_⟩
      refine ⟨"abc", rfl, (by decide +kernel), for_str (fun j σ G' => ∃ (kvs : KX) (es : ES) (vs : List V) (w4 w5 : Option V), σ = [some (.ref s), some (.ref d), some (.ref l), some (.int (i : Int)), w4, w5] ∧ QInv w K H d l 0 kvs es vs G' ∧ Bf (lst3 n x y) (0, true) es i j ∧ i < es.length) ⟨kvs, es, vs, _, _, rfl, J, bf, hlt⟩ ?_ ?_⟩
      · rintro j c σ G' hc ⟨kvs, es, vs, w4, w5, rfl, J, bf, hlt⟩
        obtain ⟨hj, rfl⟩ := abc_at hc
        have h0 : es[i]? = some es[i] := List.getElem?_eq_getElem hlt
        generalize es[i] = e0 at h0
        have m0 := List.mem_of_getElem? h0
        have bd := bf_bound hn n24 bf
        have lk := kes_len J.ke
        have le := bf.len e0 m0
        have lv := prd_len J.vp
        rw [List.drop_zero] at lv
        obtain ⟨v, gv, p, rfl, hp⟩ := prd_get J.vp (by rw [List.drop_zero]; exact h0)
        have av : atI vs (i : Int) = some (.ref p) := atI_nat gv
        refine ⟨_, rfl, _, rfl, _, rfl, l, _, _, _, rfl, rfl, SqL.of J.rr, av, _, rfl, s, p, n, x, y, e0.1, 97 + j, rfl, J.sm _ _ hs, hp, by omega, hn, ⟨by omega, by omega⟩, ⟨by omega, by omega⟩, fun f G3 s3 h3 => ?_⟩
        have h3 : SqT K G3 f (chd (lst3 n x y e0.1 (97 + j))) := SqT.of h3
        have J := J.same s3
        have hp := TK.same s3 _ _ hp
        have bth := kes_both J.ke bf.inj
        refine ⟨_, rfl, _, rfl, d, f, ckey (lst3 n x y e0.1 (97 + j)), kvs, rfl, rfl, J.dd, J.ok, h3, _, rfl, ?_⟩
        by_cases hk : ∃ e' ∈ es, e'.1 = lst3 n x y e0.1 (97 + j)
        · obtain ⟨e', he', ek⟩ := hk
          refine ifn (by rw [← ek, bth.1 e' he']; rfl) ?_
          exact ⟨kvs, es, vs, _, _, rfl, J, bf.there hj h0 he' ek, hlt⟩
        · have hno : ∀ e' ∈ es, e'.1 ≠ lst3 n x y e0.1 (97 + j) := fun e' he' z => hk ⟨e', he', z⟩
          have nn := bth.2 _ hno
          refine ifp (by rw [nn]; rfl) ?_
          have lz : (⟨e0.2.toArray⟩ : Str).length + (⟨#[97 + j]⟩ : Str).length ≤ sizeLine := by
            show e0.2.length + 1 ≤ sizeLine
            exact fit1000 (by omega)
          have kz : kvs.length < sizeLine := fit999 (by omega)
          have vz : vs.length < sizeLine := fit999 (by omega)
          refine ⟨_, rfl, _, rfl, _, rfl, l, _, _, _, rfl, rfl, SqL.of J.rr, av, d, p, ckey e0.1, kvs, _, rfl, rfl, J.dd, J.ok, hp, bth.1 e0 m0, _, rfl, _, _, rfl, rfl, lz, _, rfl, _, rfl, d, f, ckey (lst3 n x y e0.1 (97 + j)), kvs, rfl, rfl, J.dd, J.ok, h3, kz, ?_⟩
          rw [str_app]
          obtain ⟨r1, J', T, ol⟩ := J.put d0 l0' (Nat.zero_le _) (wd := e0.2 ++ [97 + j]) h3 nn
          refine ⟨_, rfl, .inl ⟨rfl, _, SqL.of r1⟩, _, rfl, l, _, _, rfl, rfl, r1, vz, ?_⟩
          refine ⟨_, es ++ [(lst3 n x y e0.1 (97 + j), e0.2 ++ [97 + j])], _, _, _, rfl, J', bf.new hj h0 hno, by rw [List.length_append]; omega⟩
      · rintro σ G' ⟨kvs, es, vs, w4, w5, rfl, J, bf, hlt⟩
        rw [abc_size] at bf
        have bd := bf_bound hn n24 bf
        exact ⟨_, rfl, _, _, rfl, rfl, _, by omega, kvs, es, vs, i + 1, _, _, rfl, rfl, hlt, J, bf.next⟩
set_option maxHeartbeats 8000000 in
theorem ok_l_other {f : Addr} {fd : FuncData} (F : Fun K "_law_other" "_law_other" s_l_other f fd) (T : Txt K mg) (C_l_mixed : Has P w K mg base 2 "_law_mixed" ["_law_script", "_law_k", "_law_salt"] (sp_l_mixed w K)) : FnOk P w K mg base CX0 3 f fd ["_law_script", "_law_sort_here"] (sp_l_other w K) := by
  refine F.ok sc_l_other (fun vs H Q E h => ?_) (fun cdv A outer s H vs Q E hr h => ?_)
  · obtain ⟨a, s, ns, n, x, y, rfl, hS, hl, hs, n3, n24, x1, y1, xy, q⟩ := h
    rfl
  · obtain ⟨a, s, ns, n, x, y, rfl, hS, hl, hs, n3, n24, x1, y1, xy, q⟩ := h
    refine ⟨_, (@pss_cons _ _ _ _ _ (ps_asg (pv 1) (pg_tup rfl (pgs_cons (pg_name (i := 2) sc_l_other.nd rfl (Or.inl rfl)) (pgs_cons (pg_name (i := 3) sc_l_other.nd rfl (Or.inl rfl)) (pgs_cons (pg_name (i := 4) sc_l_other.nd rfl (Or.inl rfl)) pgs_nil)))))
      (@pss_cons _ _ _ _ _ (@ps_set _ _ 5 _ _ _ _ sc_l_other.nd rfl (Or.inl rfl) (@pe_callH _ _ _ _ _ _ _ _ _ _ C_l_mixed (hr.mono (by decide)) rfl (@pa_cons _ _ _ _ _ (pv 0) (@pa_cons _ _ _ _ _ pe_int (@pa_cons _ _ _ _ _ pe_int pa_nil (by rfl)) (by rfl)) (by rfl)) (by decide) (by rfl) (by rfl)) (by rfl) (by first | exact Or.inl rfl | exact Or.inr rfl))
      (@pss_cons _ _ _ _ _ (@ps_if _ _ _ _ _ _ _ _ (@pt_cmpR _ _ _ _ _ _ _ _ op_lt (@pe_op _ _ _ _ _ _ _ _ op_mod (pv 5) pe_int) pe_int (nomark _))
        (@pss_one _ _ _ (@ps_ret _ _ _ _ (@pe_tup _ _ _ _ _ (@pa_cons _ _ _ _ _ (pv 2) (@pa_cons _ _ _ _ _ (pv 4) (@pa_cons _ _ _ _ _ (pv 3) pa_nil (by rfl)) (by rfl)) (by rfl)))))
        pss_nil)
      (@pss_cons _ _ _ _ _ (@ps_if _ _ _ _ _ _ _ _ (PW.pt (pw_and (@pt_cmpR _ _ _ _ _ _ _ _ op_eq (@pe_op _ _ _ _ _ _ _ _ op_mod (pv 5) pe_int) pe_int (nomark _)) (pw_and1 (@pt_cmpR _ _ _ _ _ _ _ _ op_lt (pv 2) pe_int (nomark _)))))
        (@pss_one _ _ _ (@ps_ret _ _ _ _ (@pe_tup _ _ _ _ _ (@pa_cons _ _ _ _ _ (@pe_op _ _ _ _ _ _ _ _ op_add (pv 2) pe_int) (@pa_cons _ _ _ _ _ (pv 3) (@pa_cons _ _ _ _ _ (pv 4) pa_nil (by rfl)) (by rfl)) (by rfl)))))
        pss_nil)
      (@pss_cons _ _ _ _ _ (@ps_set _ _ 3 _ _ _ _ sc_l_other.nd rfl (Or.inl rfl) (@pe_op _ _ _ _ _ _ _ _ op_add pe_int (@pe_op _ _ _ _ _ _ _ _ op_mod (@pe_op _ _ _ _ _ _ _ _ op_fdiv (pv 5) pe_int) (@pe_op _ _ _ _ _ _ _ _ op_sub (pv 2) pe_int))) (by rfl) (by first | exact Or.inl rfl | exact Or.inr rfl))
      (@pss_one _ _ _ (@ps_ret _ _ _ _ (@pe_tup _ _ _ _ _ (@pa_cons _ _ _ _ _ (pv 2) (@pa_cons _ _ _ _ _ (pv 3) (@pa_cons _ _ _ _ _ (@pe_op _ _ _ _ _ _ _ _ op_add pe_int (@pe_op _ _ _ _ _ _ _ _ op_mod (@pe_op _ _ _ _ _ _ _ _ op_fdiv (pv 5) pe_int) (@pe_op _ _ _ _ _ _ _ _ op_sub (@pe_op _ _ _ _ _ _ _ _ op_sub (pv 2) pe_int) (pv 3)))) pa_nil (by rfl)) (by rfl)) (by rfl)))))))))), ?_⟩
    have three_fit : 3 ≤ sizeLine := by decide
    refine ⟨_, rfl, s, _, rfl, SqT.of hs, rfl, _, _, rfl, _, _, rfl, _, _, rfl, rfl, ?_⟩
    refine ⟨_, rfl, a, ns, 0, 4, rfl, hS, hl, ⟨by decide, by decide⟩, ⟨by decide, by decide⟩, fun c c0 c1 => ?_⟩
    have last : ∀ (z : Int), 0 ≤ z → ∀ r (H' : Hp), Same H H' → H' r = some (.tup [.int n, .int (1 + c / 4 % (n - 2)), .int (1 + c / 100 % (n - 1 - (1 + c / 4 % (n - 2))))]) → Q (.ref r) H' := fun z _ r H' sm hr => by
      have h2 : 0 < n - 2 := by omega
      have a0 := mod_lo (c / 4) h2
      have a1 := mod_hi (c / 4) h2
      generalize c / 4 % (n - 2) = xx at *
      have h3 : 0 < n - 1 - (1 + xx) := by omega
      have b0 := mod_lo (c / 100) h3
      have b1 := mod_hi (c / 100) h3
      exact q n (1 + xx) _ n3 n24 (by omega) (by omega) (by omega) r H' sm hr
    have h2 : 0 < n - 2 := by omega
    have a1 := mod_hi (c / 4) h2
    have h3 : 0 < n - 1 - (1 + c / 4 % (n - 2)) := by omega
    refine ⟨_, rfl, _, _, rfl, rfl, (by show (0 : Int) < 4; decide), _, _, rfl, rfl, _, rfl, if2 (fun e => ?_) (fun e => ?_)⟩
    · exact ⟨_, rfl, _, rfl, _, rfl, three_fit, fun r r0 => q n y x n3 n24 y1 x1 (by omega) r _ (Same.new r0) upd_same⟩
    refine ⟨_, rfl, _, _, rfl, rfl, (by show (0 : Int) < 4; decide), rfl, _, rfl, if2 (fun e2 => ?_) (fun e2 => ?_)⟩
    · refine ⟨_, rfl, _, _, rfl, rfl, _, rfl, if2 (fun e3 => ?_) (fun e3 => ?_)⟩
      · have e3 := of_decide_eq_true e3
        exact ⟨_, rfl, _, _, rfl, rfl, _, rfl, _, rfl, three_fit, fun r r0 => q (n + 1) x y (by omega) (by omega) x1 y1 (by omega) r _ (Same.new r0) upd_same⟩
      · exact ⟨_, rfl, _, _, rfl, rfl, ⟨by decide, by decide⟩, _, rfl, _, _, rfl, rfl, _, _, rfl, rfl, h2, _, _, rfl, rfl, _, rfl, _, rfl, _, rfl, _, _, rfl, rfl, ⟨by decide, by decide⟩, _, rfl, _, _, rfl, rfl, _, rfl, _, _, rfl, rfl, _, _, rfl, rfl, h3, _, _, rfl, rfl, three_fit, fun r r0 => last 0 (Int.le_refl _) r _ (Same.new r0) upd_same⟩
    · exact ⟨_, rfl, _, _, rfl, rfl, ⟨by decide, by decide⟩, _, rfl, _, _, rfl, rfl, _, _, rfl, rfl, h2, _, _, rfl, rfl, _, rfl, _, rfl, _, rfl, _, _, rfl, rfl, ⟨by decide, by decide⟩, _, rfl, _, _, rfl, rfl, _, rfl, _, _, rfl, rfl, _, _, rfl, rfl, h3, _, _, rfl, rfl, three_fit, fun r r0 => last 0 (Int.le_refl _) r _ (Same.new r0) upd_same⟩
set_option maxHeartbeats 8000000 in
theorem ok_l_due {f : Addr} {fd : FuncData} (F : Fun K "_law_due" "_law_due" s_l_due f fd) (T : Txt K mg) (C_l_best : Has P w K mg base 2 "_law_best" ["_law_sort_here"] (sp_l_best w K)) (C_l_letter : Has P w K mg base 1 "_law_letter" ["_law_sort_here", "_law_chord", "_law_letter_here"] (sp_l_letter w K)) : FnOk P w K mg base CX0 4 f fd ["_law_sort_here"] (sp_l_due w K) := by
  refine F.ok sc_l_due (fun vs H Q E h => ?_) (fun cdv A outer s H vs Q E hr h => ?_)
  · obtain ⟨s, n, x, y, rfl, hs, n3, n24, x1, y1, xy, q⟩ := h
    rfl
  · obtain ⟨s, n, x, y, rfl, hs, n3, n24, x1, y1, xy, q⟩ := h
    refine ⟨_, (@pss_cons _ _ _ _ _ (@ps_set _ _ 1 _ _ _ _ sc_l_due.nd rfl (Or.inl rfl) (@pe_callH _ _ _ _ _ _ _ _ _ _ C_l_best (hr.mono (by decide)) rfl (@pa_cons _ _ _ _ _ (pv 0) pa_nil (by rfl)) (by decide) (by rfl) (by rfl)) (by rfl) (by first | exact Or.inl rfl | exact Or.inr rfl))
      (@pss_cons _ _ _ _ _ (@ps_set _ _ 2 _ _ _ _ sc_l_due.nd rfl (Or.inl rfl) (@pe_lst _ _ _ _ pa_nil) (by rfl) (by first | exact Or.inl rfl | exact Or.inr rfl))
      (@pss_cons _ _ _ _ _ (ps_for PassesOwn.never rfl (pi_keys (pv 1)) (pg_name (i := 3) sc_l_due.nd rfl (Or.inl rfl))
        (@pss_one _ _ _ (ps_for PassesOwn.never rfl (pi_str pe_str) (pg_name (i := 4) sc_l_due.nd rfl (Or.inl rfl))
          (@pss_cons _ _ _ _ _ (@ps_set _ _ 5 _ _ _ _ sc_l_due.nd rfl (Or.inl rfl) (@pe_op _ _ _ _ _ _ _ _ op_add_str (pe_xgetE (units1 hr) (pv 1) (pv 3) (fun _ _ => rfl)) (pv 4)) (by rfl) (by first | exact Or.inl rfl | exact Or.inr rfl))
          (@pss_cons _ _ _ _ _ (@ps_set _ _ 6 _ _ _ _ sc_l_due.nd rfl (Or.inl rfl) (pe_xgetE (units1 hr) (pv 1) (@pe_callH _ _ _ _ _ _ _ _ _ _ C_l_letter (hr.mono (by decide)) rfl (@pa_cons _ _ _ _ _ (pv 0) (@pa_cons _ _ _ _ _ (pv 3) (@pa_cons _ _ _ _ _ (pv 4) pa_nil (by rfl)) (by rfl)) (by rfl)) (by decide) (by rfl) (by rfl)) (fun _ _ => rfl)) (by rfl) (by first | exact Or.inl rfl | exact Or.inr rfl))
          (@pss_one _ _ _ (@ps_if _ _ _ _ _ _ _ _ (@pt_cmpR _ _ _ _ _ _ _ _ op_ne (pv 5) (pv 6) (nomark _))
            (@pss_one _ _ _ (ps_expr (pe_bm PySem.F.plainAttrs_list PySem.F.slot_list_append PySem.F.type_list_append mt_append (pv 2) (@pa_cons _ _ _ _ _ (@pe_tup _ _ _ _ _ (@pa_cons _ _ _ _ _ (pe_callB call_len_str (by rfl) T.b_len PySem.boot_len (@pa_cons _ _ _ _ _ (pv 5) pa_nil (by rfl))) (@pa_cons _ _ _ _ _ (pv 5) (@pa_cons _ _ _ _ _ (pv 6) pa_nil (by rfl)) (by rfl)) (by rfl))) pa_nil (by rfl)))))
            pss_nil)))))))
      (@pss_one _ _ _ (@ps_ret _ _ _ _ (pe_comp3 (ys := []) (js := []) ⟨by rfl, of_decide_eq_true (by kernel_rfl), of_decide_eq_true (by kernel_rfl), by rfl, by rfl, by rfl, of_decide_eq_true (by kernel_rfl), of_decide_eq_true (by kernel_rfl), by rfl, of_decide_eq_true (by kernel_rfl)⟩ rfl (pi_list (pe_callB call_sorted_up (by rfl) T.b_sorted PyProof.Rows.boot_sorted (@pa_cons _ _ _ _ _ (pv 2) pa_nil (by rfl)))) (fun _ _ _ _ _ => (@pe_tup _ _ _ _ _ (@pa_cons _ _ _ _ _ (pv 1) (@pa_cons _ _ _ _ _ (pv 2) pa_nil (by rfl)) (by rfl)))))))))), ?_⟩
    have hn : 0 < n := by omega
    refine ⟨_, rfl, s, n, x, y, rfl, hs, n3, n24, x1, y1, xy, fun d kvs es H1 d0 s1 hd ok ke bf => ?_⟩
    refine ⟨(by show 0 ≤ sizeLine; decide), fun l l0 => ?_⟩
    obtain ⟨sL, hL⟩ := new_all (o := .lst []) l0
    have l0' : H l = none := s1.free l0
    have dl : d ≠ l := ne_of_none hd l0
    refine ⟨_, rfl, d, kvs, rfl, sL _ _ hd, fun ep => ?_⟩
    have bd := bf_bound hn n24 bf
    have lk := kes_len ke
    have bth := kes_both ke bf.inj
    have S1 : Same H (upd (upd H1 l (.lst [])) d (dE w d kvs ep)) := (s1.trans sL).upd d0
    have T1 : TK K H1 (upd (upd H1 l (.lst [])) d (dE w d kvs ep)) := (TK.same sL).trans (TK.updX (sL _ _ hd))
    refine for_keys (fun i σ G => ∃ (ws : List V) (w3 w4 w5 w6 : Option V), σ = [some (.ref s), some (.ref d), some (.ref l), w3, w4, w5, w6] ∧ Same H G ∧ G d = some (dE w d kvs ep) ∧ KeysOk K G kvs ∧ G l = some (.lst ws) ∧ Paired (TriR G) ws (rls n x y es (es.take i))) ⟨[], _, _, _, _, rfl, S1, upd_same, ok.mono T1, by rw [upd_ne (Ne.symm dl)]; exact hL, .nil⟩ ?_ ?_ ?_
    · rintro i σ G _ ⟨ws, w3, w4, w5, w6, rfl, sG, hd, _⟩
      exact hd
    · rintro i q0 σ G hq ⟨ws, w3, w4, w5, w6, rfl, sG, hd, ok, hl, pr⟩
      have hi : i < es.length := by
        rw [← lk]
        exact (List.getElem?_eq_some_iff.mp hq).1
      have h0 : es[i]? = some es[i] := List.getElem?_eq_getElem hi
      have htk : es.take (i + 1) = es.take i ++ [es[i]] := by rw [List.take_add_one, h0]; rfl
      generalize es[i] = e0 at h0 htk
      have m0 := List.mem_of_getElem? h0
      have he0 := bf.len e0 m0
      have hqe : q0.1 = ckey e0.1 ∧ q0.2.2 = V.str ⟨e0.2.toArray⟩ := by
        have := congrArg (fun l => l[i]?) ke
        rw [List.getElem?_map, List.getElem?_map, h0, hq] at this
        have := Option.some.inj this
        exact ⟨congrArg (·.1) this, congrArg (·.2) this⟩
      have hp : SqT K G q0.2.1 (chd e0.1) := by
        have := ok q0 (List.mem_of_getElem? hq)
        rw [hqe.1] at this
        exact this
      generalize q0.2.1 = p at *
      have lr := rls_len n x y es (es.take i)
      rw [List.length_take] at lr
      refine ⟨"abc", rfl, (by decide +kernel), for_str (fun j σ G => ∃ (ws : List V) (w4 w5 w6 : Option V), σ = [some (.ref s), some (.ref d), some (.ref l), some (.ref p), w4, w5, w6] ∧ Same H G ∧ G d = some (dE w d kvs ep) ∧ KeysOk K G kvs ∧ G l = some (.lst ws) ∧ Paired (TriR G) ws (rls n x y es (es.take i) ++ rl1 n x y es e0 ([97, 98, 99].take j)) ∧ SqT K G p (chd e0.1)) ⟨ws, _, _, _, rfl, sG, hd, ok, hl, by simpa [rl1] using pr, hp⟩ ?_ ?_⟩
      · rintro j c σ G hc ⟨ws, w4, w5, w6, rfl, sG, hd, ok, hl, pr, hp⟩
        obtain ⟨hj, rfl⟩ := abc_at hc
        have lw := prd_len pr
        have l1 := rl1_len n x y es e0 ([97, 98, 99].take j)
        rw [List.length_append] at lw
        rw [List.length_take] at l1
        have l3 : [97, 98, 99].length = 3 := rfl
        have htj : [97, 98, 99].take (j + 1) = [97, 98, 99].take j ++ [97 + j] := by
          match j, hj with
          | 0, _ => rfl
          | 1, _ => rfl
          | 2, _ => rfl
        have more : rl1 n x y es e0 ([97, 98, 99].take (j + 1)) = rl1 n x y es e0 ([97, 98, 99].take j) ++ (if bst es (lst3 n x y e0.1 (97 + j)) = e0.2 ++ [97 + j] then [] else [(e0.2 ++ [97 + j], bst es (lst3 n x y e0.1 (97 + j)))]) := by
          unfold rl1
          rw [htj, List.filter_append, List.map_append]
          congr 1
          by_cases z : bst es (lst3 n x y e0.1 (97 + j)) = e0.2 ++ [97 + j]
          · rw [if_pos z, List.filter_cons_of_neg (by rw [decide_eq_true z]; exact Bool.false_ne_true)]
            rfl
          · rw [if_neg z, List.filter_cons_of_pos (by rw [decide_eq_false z]; rfl)]
            rfl
        have abc1 : ∀ c ∈ e0.2 ++ [97 + j], c = 97 ∨ c = 98 ∨ c = 99 := fun c hc => by
          rcases List.mem_append.mp hc with z | z
          · exact bf.abc e0 m0 c z
          · rw [List.mem_singleton.mp z]; omega
        obtain ⟨e', he', ek, _⟩ := bf.full abc1
        have ek : e'.1 = lst3 n x y e0.1 (97 + j) := by
          rw [ek, List.foldl_append, bf.wk e0 m0]
          rfl
        have eb : bst es (lst3 n x y e0.1 (97 + j)) = e'.2 := by rw [← ek]; exact bst_of bf he'
        have le' := bf.len e' he'
        have lz : (⟨e0.2.toArray⟩ : Str).length + (⟨#[97 + j]⟩ : Str).length ≤ sizeLine := by
          show e0.2.length + 1 ≤ sizeLine
          exact fit1000 (by omega)
        refine ⟨_, rfl, _, rfl, d, p, ckey e0.1, kvs, ep, _, rfl, rfl, hd, ok, hp, bth.1 e0 m0, _, rfl, _, _, rfl, rfl, lz, ?_⟩
        rw [str_app]
        refine ⟨_, rfl, _, rfl, _, rfl, _, rfl, s, p, n, x, y, e0.1, 97 + j, rfl, sG _ _ hs, hp, by omega, hn, ⟨by omega, by omega⟩, ⟨by omega, by omega⟩, fun f G3 s3 h3 => ?_⟩
        have h3 : SqT K G3 f (chd (lst3 n x y e0.1 (97 + j))) := SqT.of h3
        have ok3 := ok.mono (TK.same s3)
        have hd3 := s3 _ _ hd
        have hl3 := s3 _ _ hl
        rw [← ek] at h3
        refine ⟨d, f, ckey e'.1, kvs, ep, _, rfl, rfl, hd3, ok3, h3, bth.1 e' he', ?_⟩
        refine ⟨_, rfl, _, rfl, rfl, _, rfl, ?_⟩
        by_cases z : e'.2 = e0.2 ++ [97 + j]
        · refine ifn (by rw [z, decide_eq_true rfl]; rfl) ?_
          refine ⟨ws, _, _, _, rfl, sG.trans s3, hd3, ok3, hl3, ?_, TK.same s3 _ _ hp⟩
          rw [more, if_pos (eb.trans z), List.append_nil]
          exact tri_mono s3.tk pr
        · refine ifp (by rw [decide_eq_false (fun q => z (by simpa using congrArg (fun v => match v with | V.str x => x.cps.toList | _ => []) q.symm))]; rfl) ?_
          have sl2 : (⟨(e0.2 ++ [97 + j]).toArray⟩ : Str).length = (e0.2 ++ [97 + j]).length := by simp [Str.length]
          refine ⟨_, rfl, .inl ⟨rfl, _, SqL.of hl3⟩, _, rfl, _, rfl, (by rw [sl2, List.length_append]; exact fit1000 (by show e0.2.length + 1 ≤ 1000; omega)), _, rfl, _, rfl, (by show 3 ≤ sizeLine; decide), fun r r0 => ?_⟩
          rw [sl2]
          obtain ⟨sR, hR⟩ := new_all (o := .tup [V.int ((e0.2 ++ [97 + j]).length : Int), V.str ⟨(e0.2 ++ [97 + j]).toArray⟩, V.str ⟨e'.2.toArray⟩]) r0
          refine ⟨l, _, _, rfl, rfl, sR _ _ hl3, fit999 (by omega), ?_⟩
          have hdR := sR _ _ hd3
          have okR := ok3.mono (TK.same sR)
          have hlR := sR _ _ hl3
          have prR := tri_mono (s3.tk.trans sR.tk) pr
          have hpR := TK.same (s3.trans sR) _ _ hp
          have sGR := sG.trans (s3.trans sR)
          generalize upd G3 r (.tup [V.int ((e0.2 ++ [97 + j]).length : Int), V.str ⟨(e0.2 ++ [97 + j]).toArray⟩, V.str ⟨e'.2.toArray⟩]) = G5 at *
          have tL : TK K G5 (upd G5 l (.lst (ws ++ [.ref r]))) := TK.updL hlR
          have tU : TupKeep G5 (upd G5 l (.lst (ws ++ [.ref r]))) := TupKeep.upd fun zs e => by rw [hlR] at e; cases e
          refine ⟨ws ++ [.ref r], _, _, _, rfl, sGR.upd l0', by rw [upd_ne dl]; exact hdR, okR.mono tL, upd_same, ?_, tL _ _ hpR⟩
          rw [more, if_neg (fun q => z (eb.symm.trans q)), eb, ← List.append_assoc]
          exact prd_append (tri_mono tU prR) (.cons ⟨r, rfl, tU _ _ hR⟩ .nil)
      · rintro σ G ⟨ws, w4, w5, w6, rfl, sG, hd, ok, hl, pr, hp⟩
        refine ⟨ws, _, _, _, _, rfl, sG, hd, ok, hl, ?_⟩
        rw [htk]
        unfold rls at pr ⊢
        rw [List.flatMap_append, List.flatMap_singleton]
        exact pr
    · rintro σ G ⟨ws, w3, w4, w5, w6, rfl, sG, hd, ok, hl, pr⟩
      rw [lk, List.take_length] at pr
      have lr := rls_len n x y es es
      obtain ⟨P, eP⟩ : ∃ P, P = rls n x y es es := ⟨_, rfl⟩
      have pup := rls_up2 (n := n) (x := x) (y := y) bf
      rw [← eP] at pr lr pup
      obtain ⟨us, eus, eks, hT⟩ := tri_us pr
      have lp : us.length = P.length := by rw [← List.length_map (f := (·.1)), eks, List.length_map]
      have key : ∀ u ∈ us, ∃ p, u.1 = tkey p := fun u hu => by
        have : u.1 ∈ P.map tkey := by rw [← eks]; exact List.mem_map_of_mem hu
        obtain ⟨p, _, e⟩ := List.mem_map.mp this
        exact ⟨p, e.symm⟩
      refine ⟨_, rfl, l, us, rfl, by rw [← eus]; exact hl, hT, by omega, fun u hu => ?_, fun u hu v hv => ?_, tri_up pup eks, fun l2 l20 => ?_⟩
      · obtain ⟨p, e⟩ := key u hu
        exact ⟨_, _, e⟩
      · obtain ⟨p, e⟩ := key u hu
        obtain ⟨r, e2⟩ := key v hv
        rw [e, e2]
        rfl
      · rw [← eus]
        have s2 := Same.new (o := .lst ws) l20
        have h2 : (upd G l2 (.lst ws)) l2 = some (.lst ws) := upd_same
        generalize upd G l2 (.lst ws) = G2 at s2 h2 ⊢
        refine ⟨l2, rfl, ⟨_, SqL.of h2⟩, comp3_prd ws P (fun c => V.int (c.1.length : Int)) (fun c => V.str ⟨c.1.toArray⟩) (fun c => V.str ⟨c.2.toArray⟩) id RuleR (fun _ _ _ _ t ⟨r, e, z⟩ => ⟨r, e, t _ _ z⟩) (SqL.of h2) (tri_mono s2.tk pr) (fun c H' hc sm Q2 h => ⟨_, rfl, _, rfl, two_fit, fun r r0 => h (.ref r) _ (Same.new r0) ⟨r, rfl, upd_same⟩⟩) (fit1000 (by omega)) fun D us3 H3 hD s3 hL3 pr3 => ?_⟩
        rw [List.map_id, eP] at pr3
        exact q D us3 es H3 ((sG.trans s2).free hD) (sG.trans (s2.trans s3)) hL3 bf pr3
set_option maxHeartbeats 8000000 in
theorem ok_law {f : Addr} {fd : FuncData} (F : Fun K "law" "law" s_law f fd) (T : Txt K mg) (C_l_due : Has P w K mg base 4 "_law_due" ["_law_sort_here"] (sp_l_due w K)) (C_l_other : Has P w K mg base 3 "_law_other" ["_law_script", "_law_sort_here"] (sp_l_other w K)) (C_l_sort : Has P w K mg base 4 "_law_sort" ["_law_script", "_law_most"] (sp_l_sort w K)) (C_rules : Has P w K mg base 5 "rules" ["sort"] (sp_rules w K)) : FnOk P w K mg base CX0 8 f fd ["_law_script"] (sp_law w K) := by
  refine F.ok sc_law (fun vs H Q E h => ?_) (fun cdv A outer s H vs Q E hr h => ?_)
  · obtain ⟨a, ns, rfl, hS, hl, q⟩ := h
    rfl
  · obtain ⟨a, ns, rfl, hS, hl, q⟩ := h
    refine ⟨_, (@pss_cons _ _ _ _ _ (@ps_set _ _ 1 _ _ _ _ sc_law.nd rfl (Or.inl rfl) (@pe_callH _ _ _ _ _ _ _ _ _ _ C_l_sort (hr.mono (by decide)) rfl (@pa_cons _ _ _ _ _ (pv 0) (@pa_cons _ _ _ _ _ pe_int pa_nil (by rfl)) (by rfl)) (by decide) (by rfl) (by rfl)) (by rfl) (by first | exact Or.inl rfl | exact Or.inr rfl))
      (@pss_cons _ _ _ _ _ (@ps_set _ _ 2 _ _ _ _ sc_law.nd rfl (Or.inl rfl) (@pe_lst _ _ _ _ (@pa_cons _ _ _ _ _ (pv 1) (@pa_cons _ _ _ _ _ (@pe_callH _ _ _ _ _ _ _ _ _ _ C_l_other (hr.mono (by decide)) rfl (@pa_cons _ _ _ _ _ (pv 0) (@pa_cons _ _ _ _ _ (pv 1) pa_nil (by rfl)) (by rfl)) (by decide) (by rfl) (by rfl)) pa_nil (by rfl)) (by rfl))) (by rfl) (by first | exact Or.inl rfl | exact Or.inr rfl))
      (@pss_cons _ _ _ _ _ (ps_setC (i := 3) sc_law.nd rfl rfl (ys := []) (js := []) ⟨by rfl, of_decide_eq_true (by kernel_rfl), of_decide_eq_true (by kernel_rfl), by rfl, of_decide_eq_true (by kernel_rfl), of_decide_eq_true (by kernel_rfl), by rfl, of_decide_eq_true (by kernel_rfl)⟩ rfl (pi_list (pv 2)) (fun _ _ _ _ _ => pts_nil) (fun _ _ _ _ _ => (@pe_callH _ _ _ _ _ _ _ _ _ _ C_l_due (hr.mono (by decide)) rfl (@pa_cons _ _ _ _ _ (pv 0) pa_nil (by rfl)) (by decide) (by rfl) (by rfl))))
      (@pss_cons _ _ _ _ _ (ps_for PassesOwn.never rfl (pi_list (@pe_lst _ _ _ _ (@pa_cons _ _ _ _ _ pe_int (@pa_cons _ _ _ _ _ pe_int (@pa_cons _ _ _ _ _ pe_int (@pa_cons _ _ _ _ _ pe_int pa_nil (by rfl)) (by rfl)) (by rfl)) (by rfl)))) (pg_name (i := 4) sc_law.nd rfl (Or.inl rfl))
        (@pss_cons _ _ _ _ _ (@ps_set _ _ 5 _ _ _ _ sc_law.nd rfl (Or.inl rfl) (@pe_callH _ _ _ _ _ _ _ _ _ _ C_rules (hr.mono (by decide)) rfl (@pa_cons _ _ _ _ _ (@pe_ix _ _ _ _ _ _ _ ix_list (pv 2) (pv 4) (fun _ _ => rfl)) pa_nil (by rfl)) (by decide) (by rfl) (by rfl)) (by rfl) (by first | exact Or.inl rfl | exact Or.inr rfl))
        (@pss_cons _ _ _ _ _ (@ps_if _ _ _ _ _ _ _ _ (PW.pt (pw_or (pt_not (pt_val (pe_callB call_isinst (by rfl) T.b_isinstance PyProof.Rows.boot_isinstance (@pa_cons _ _ _ _ _ (pv 5) (@pa_cons _ _ _ _ _ (pe_bltn (v := V.ty "list") (by rfl) T.b_list PyProof.Rows.boot_list rfl) pa_nil (by rfl)) (by rfl))))) (pw_or1 (@pt_cmpR _ _ _ _ _ _ _ _ (op_neLd (d := 1) (R := TupOf StrR) (eqok_tup eqok_str) (by decide) hr.units) (pv 5) (@pe_ix _ _ _ _ _ _ _ ix_list (pv 3) (pv 4) (fun _ _ => rfl)) (nomark _)))))
          (@pss_one _ _ _ (@ps_ret _ _ _ _ pe_bl))
          pss_nil)
        (@pss_one _ _ _ (ps_expr (pe_bm0 PySem.F.plainAttrs_list PySem.F.slot_list_clear PySem.F.type_list_clear mt_clear (pv 5)))))))
      (@pss_one _ _ _ (@ps_ret _ _ _ _ pe_bl)))))), ?_⟩
    have hlen : (ns.map V.int).length = ns.length := List.length_map _
    have four_fit : 4 ≤ sizeLine := by decide
    refine ⟨_, rfl, a, ns, rfl, hS, hl, fun n x y n3 n24 x1 y1 xy s H1 s1 hs => ?_⟩
    refine ⟨_, rfl, _, rfl, _, rfl, a, s, ns, n, x, y, rfl, s1.seq hS, hl, hs, n3, n24, x1, y1, xy, fun n' x' y' n3' n24' x1' y1' xy' s' H2 s2 hs' => ?_⟩
    refine ⟨two_fit, fun l l0 => ?_⟩
    obtain ⟨sL, hL⟩ := new_all (o := .lst [V.ref s, V.ref s']) l0
    have hs2 := sL _ _ (s2 _ _ hs)
    have hs2' := sL _ _ hs'
    generalize upd H2 l (.lst [V.ref s, V.ref s']) = G2 at sL hL hs2 hs2' ⊢
    have all : ∀ b ∈ [(s, n, x, y), (s', n', x', y')], G2 b.1 = some (.tup [.int b.2.1, .int b.2.2.1, .int b.2.2.2]) ∧ 3 ≤ b.2.1 ∧ b.2.1 ≤ 24 ∧ 1 ≤ b.2.2.1 ∧ 1 ≤ b.2.2.2 ∧ b.2.2.1 + b.2.2.2 < b.2.1 := fun b hb => by
      rcases List.mem_cons.mp hb with rfl | hb
      · exact ⟨hs2, n3, n24, x1, y1, xy⟩
      · rw [List.mem_singleton.mp hb]
        exact ⟨hs2', n3', n24', x1', y1', xy'⟩
    refine ⟨_, rfl, l, rfl, ⟨_, SqL.of hL⟩, comp_growD [(s, n, x, y), (s', n', x', y')] (fun b => V.ref b.1) (fun b => b.2) DueR (fun _ _ _ _ _ t r => r.mono t) (it_list [(s, n, x, y), (s', n', x', y')] (fun b => V.ref b.1) (SqL.of hL)) (fun b H' _ sm Q2 h => h H' (Same.refl _)) (fun b H' D ys hb hD hD2 sm Q2 h => ?_) two_fit fun D ws H3 hD s3 hLD pr => ?_⟩
    · obtain ⟨b1, b2, b3, b4, b5, b6⟩ := all b hb
      exact ⟨_, rfl, b.1, b.2.1, b.2.2.1, b.2.2.2, rfl, sm _ _ b1, b2, b3, b4, b5, b6, fun d kvs es H4 d0 s4 hd bf pr => h _ H4 s4 ⟨d, kvs, es, rfl, Ne.symm (ne_of_none hD2 d0), hd, bf, pr⟩⟩
    have pr : Paired (DueR D H3) ws [(n, x, y), (n', x', y')] := pr
    obtain ⟨v0, g0, r0⟩ := prd_get (i := 0) pr rfl
    obtain ⟨v1, g1, r1⟩ := prd_get (i := 1) pr rfl
    refine ⟨four_fit, fun l3 l30 => ?_⟩
    obtain ⟨sA, hA⟩ := new_all (o := .lst [V.int 0, V.int 1, V.int 0, V.int 1]) l30
    generalize upd H3 l3 (.lst [V.int 0, V.int 1, V.int 0, V.int 1]) = G0 at sA hA ⊢
    refine ⟨l3, rfl, ⟨_, SqL.of hA⟩, for_list (xs := [.int 0, .int 1, .int 0, .int 1]) (fun j σ G' => ∃ (w4 w5 : Option V), σ = [some (.ref a), some (.ref s), some (.ref l), some (.ref D), w4, w5] ∧ Same G0 G') ⟨_, _, rfl, Same.refl _⟩ ?_ ?_ ?_⟩
    · rintro j σ G' _ ⟨w4, w5, rfl, sG'⟩
      exact SqL.of (sG' _ _ hA)
    · rintro j xv σ G' hx ⟨w4, w5, rfl, sG'⟩
      have T := sA.trans sG'
      have T2 := s3.trans T
      have mem : xv = .int 0 ∨ xv = .int 1 := by
        have this := List.mem_of_getElem? hx
        rw [List.mem_cons, List.mem_cons, List.mem_cons, List.mem_singleton] at this
        rcases this with z | z | z | z
        · exact .inl z
        · exact .inr z
        · exact .inl z
        · exact .inr z
      rcases mem with rfl | rfl
      · obtain ⟨d, us, es, rfl, dD, hd, bf, pd⟩ := r0
        have ad : atI ws 0 = some (.ref d) := atI_nat (j := 0) g0
        refine ⟨_, rfl, _, rfl, l, _, _, _, rfl, rfl, SqL.of (T2 _ _ hL), rfl, s, n, x, y, rfl, T2 _ _ hs2, n3, n24, x1, y1, xy, fun f fs es2 G5 f0 s5 hf bf2 pf => ?_⟩
        have ee := bf_eq bf bf2
        subst ee
        refine ⟨_, rfl, _, "list", _, _, rfl, .lst hf, kit_same K _, true, rfl, ifn rfl ?_⟩
        refine ⟨_, rfl, _, rfl, _, rfl, D, _, _, _, rfl, rfl, SqL.of (s5 _ _ (T _ _ hLD)), ad, f, d, _, _, _, _, rfl, rfl, SqL.of hf, SqL.of (s5 _ _ (T _ _ hd)), rule_tup pf, rule_tup (rule_mono (T.trans s5).tk pd), _, rfl, ifn (by rw [decide_eq_true rfl]; rfl) ?_⟩
        exact ⟨_, rfl, .inl ⟨rfl, _, SqL.of hf⟩, f, _, rfl, rfl, hf, _, _, rfl, (sG'.trans s5).upd (sG'.free f0)⟩
      · obtain ⟨d, us, es, rfl, dD, hd, bf, pd⟩ := r1
        have ad : atI ws 1 = some (.ref d) := atI_nat (j := 1) g1
        refine ⟨_, rfl, _, rfl, l, _, _, _, rfl, rfl, SqL.of (T2 _ _ hL), rfl, s', n', x', y', rfl, T2 _ _ hs2', n3', n24', x1', y1', xy', fun f fs es2 G5 f0 s5 hf bf2 pf => ?_⟩
        have ee := bf_eq bf bf2
        subst ee
        refine ⟨_, rfl, _, "list", _, _, rfl, .lst hf, kit_same K _, true, rfl, ifn rfl ?_⟩
        refine ⟨_, rfl, _, rfl, _, rfl, D, _, _, _, rfl, rfl, SqL.of (s5 _ _ (T _ _ hLD)), ad, f, d, _, _, _, _, rfl, rfl, SqL.of hf, SqL.of (s5 _ _ (T _ _ hd)), rule_tup pf, rule_tup (rule_mono (T.trans s5).tk pd), _, rfl, ifn (by rw [decide_eq_true rfl]; rfl) ?_⟩
        exact ⟨_, rfl, .inl ⟨rfl, _, SqL.of hf⟩, f, _, rfl, rfl, hf, _, _, rfl, (sG'.trans s5).upd (sG'.free f0)⟩
    · rintro σ G' ⟨w4, w5, rfl, sG'⟩
      exact q _
end
set_option maxHeartbeats 8000000 in
theorem all_mk {l : PySem.W.OpenLaw} {w : World} {K : PySem.W.Frag} {h : Heap} {mg : Str → Option Value} {fa : Addr} (X : K.In h) (G : h.Ns mainGlobals mg) (hfa : mg "law" = some (.ref fa))
    {f1 : Addr} {od1 an1 : Option Addr} {sl1 : Array (Option Value)} {oc1 kV1 dc1 pm1 cd1 ct1 : Value}
    {f2 : Addr} {od2 an2 : Option Addr} {sl2 : Array (Option Value)} {oc2 kV2 dc2 pm2 cd2 ct2 : Value}
    {f3 : Addr} {od3 an3 : Option Addr} {sl3 : Array (Option Value)} {oc3 kV3 dc3 pm3 cd3 ct3 : Value}
    {f4 : Addr} {od4 an4 : Option Addr} {sl4 : Array (Option Value)} {oc4 kV4 dc4 pm4 cd4 ct4 : Value}
    {f5 : Addr} {od5 an5 : Option Addr} {sl5 : Array (Option Value)} {oc5 kV5 dc5 pm5 cd5 ct5 : Value}
    {f6 : Addr} {od6 an6 : Option Addr} {sl6 : Array (Option Value)} {oc6 kV6 dc6 pm6 cd6 ct6 : Value}
    {f7 : Addr} {od7 an7 : Option Addr} {sl7 : Array (Option Value)} {oc7 kV7 dc7 pm7 cd7 ct7 : Value}
    {f8 : Addr} {od8 an8 : Option Addr} {sl8 : Array (Option Value)} {oc8 kV8 dc8 pm8 cd8 ct8 : Value}
    {f9 : Addr} {od9 an9 : Option Addr} {sl9 : Array (Option Value)} {oc9 kV9 dc9 pm9 cd9 ct9 : Value}
    {f10 : Addr} {od10 an10 : Option Addr} {sl10 : Array (Option Value)} {oc10 kV10 dc10 pm10 cd10 ct10 : Value}
    {f11 : Addr} {od11 an11 : Option Addr} {sl11 : Array (Option Value)} {oc11 kV11 dc11 pm11 cd11 ct11 : Value}
    {f12 : Addr} {od12 an12 : Option Addr} {sl12 : Array (Option Value)} {oc12 kV12 dc12 pm12 cd12 ct12 : Value}
    {f13 : Addr} {od13 an13 : Option Addr} {sl13 : Array (Option Value)} {oc13 kV13 dc13 pm13 cd13 ct13 : Value}
    {f14 : Addr} {od14 an14 : Option Addr} {sl14 : Array (Option Value)} {oc14 kV14 dc14 pm14 cd14 ct14 : Value}
    {f15 : Addr} {od15 an15 : Option Addr} {sl15 : Array (Option Value)} {oc15 kV15 dc15 pm15 cd15 ct15 : Value}
    {gSTART : Addr} {dSTART : Option Addr} {iSTART : Array Value} {nSTART : Nat} {oSTART : Array (Option Value)}
    {gLETTERS : Tok}
    (a1 : PySem.W.nsIn K mainGlobals "other_way" = some (some (.ref f1))) (l1 : K.lookup f1 = some ⟨oc1, od1, .func (PySem.W.fnOf "other_way" "other_way" (defArgs s_other_way) (defBody s_other_way) (defScope s_other_way) .none kV1 dc1 pm1 an1 cd1 ct1), sl1⟩) (c1 : PySem.W.codeIn K cd1 "other_way" = true) (k1 : PySem.W.keepIn K (.ref f1) = true)
    (a2 : PySem.W.nsIn K mainGlobals "reach" = some (some (.ref f2))) (l2 : K.lookup f2 = some ⟨oc2, od2, .func (PySem.W.fnOf "reach" "reach" (defArgs s_reach) (defBody s_reach) (defScope s_reach) .none kV2 dc2 pm2 an2 cd2 ct2), sl2⟩) (c2 : PySem.W.codeIn K cd2 "reach" = true) (k2 : PySem.W.keepIn K (.ref f2) = true)
    (a3 : PySem.W.nsIn K mainGlobals "letter_done" = some (some (.ref f3))) (l3 : K.lookup f3 = some ⟨oc3, od3, .func (PySem.W.fnOf "letter_done" "letter_done" (defArgs s_letter_done) (defBody s_letter_done) (defScope s_letter_done) .none kV3 dc3 pm3 an3 cd3 ct3), sl3⟩) (c3 : PySem.W.codeIn K cd3 "letter_done" = true) (k3 : PySem.W.keepIn K (.ref f3) = true)
    (a4 : PySem.W.nsIn K mainGlobals "led" = some (some (.ref f4))) (l4 : K.lookup f4 = some ⟨oc4, od4, .func (PySem.W.fnOf "led" "led" (defArgs s_led) (defBody s_led) (defScope s_led) .none kV4 dc4 pm4 an4 cd4 ct4), sl4⟩) (c4 : PySem.W.codeIn K cd4 "led" = true) (k4 : PySem.W.keepIn K (.ref f4) = true)
    (a5 : PySem.W.nsIn K mainGlobals "shortest_words" = some (some (.ref f5))) (l5 : K.lookup f5 = some ⟨oc5, od5, .func (PySem.W.fnOf "shortest_words" "shortest_words" (defArgs s_shortest_words) (defBody s_shortest_words) (defScope s_shortest_words) .none kV5 dc5 pm5 an5 cd5 ct5), sl5⟩) (c5 : PySem.W.codeIn K cd5 "shortest_words" = true) (k5 : PySem.W.keepIn K (.ref f5) = true)
    (a6 : PySem.W.nsIn K mainGlobals "rules" = some (some (.ref f6))) (l6 : K.lookup f6 = some ⟨oc6, od6, .func (PySem.W.fnOf "rules" "rules" (defArgs s_rules) (defBody s_rules) (defScope s_rules) .none kV6 dc6 pm6 an6 cd6 ct6), sl6⟩) (c6 : PySem.W.codeIn K cd6 "rules" = true) (k6 : PySem.W.keepIn K (.ref f6) = true)
    (a7 : PySem.W.nsIn K mainGlobals "_law_cell_at" = some (some (.ref f7))) (l7 : K.lookup f7 = some ⟨oc7, od7, .func (PySem.W.fnOf "_law_cell_at" "_law_cell_at" (defArgs s_l_cell_at) (defBody s_l_cell_at) (defScope s_l_cell_at) .none kV7 dc7 pm7 an7 cd7 ct7), sl7⟩) (c7 : PySem.W.codeIn K cd7 "_law_cell_at" = true) (k7 : PySem.W.keepIn K (.ref f7) = true)
    (a8 : PySem.W.nsIn K mainGlobals "_law_mixed" = some (some (.ref f8))) (l8 : K.lookup f8 = some ⟨oc8, od8, .func (PySem.W.fnOf "_law_mixed" "_law_mixed" (defArgs s_l_mixed) (defBody s_l_mixed) (defScope s_l_mixed) .none kV8 dc8 pm8 an8 cd8 ct8), sl8⟩) (c8 : PySem.W.codeIn K cd8 "_law_mixed" = true) (k8 : PySem.W.keepIn K (.ref f8) = true)
    (a9 : PySem.W.nsIn K mainGlobals "_law_wheel" = some (some (.ref f9))) (l9 : K.lookup f9 = some ⟨oc9, od9, .func (PySem.W.fnOf "_law_wheel" "_law_wheel" (defArgs s_l_wheel) (defBody s_l_wheel) (defScope s_l_wheel) .none kV9 dc9 pm9 an9 cd9 ct9), sl9⟩) (c9 : PySem.W.codeIn K cd9 "_law_wheel" = true) (k9 : PySem.W.keepIn K (.ref f9) = true)
    (a10 : PySem.W.nsIn K mainGlobals "_law_sort" = some (some (.ref f10))) (l10 : K.lookup f10 = some ⟨oc10, od10, .func (PySem.W.fnOf "_law_sort" "_law_sort" (defArgs s_l_sort) (defBody s_l_sort) (defScope s_l_sort) .none kV10 dc10 pm10 an10 cd10 ct10), sl10⟩) (c10 : PySem.W.codeIn K cd10 "_law_sort" = true) (k10 : PySem.W.keepIn K (.ref f10) = true)
    (a11 : PySem.W.nsIn K mainGlobals "_law_letter" = some (some (.ref f11))) (l11 : K.lookup f11 = some ⟨oc11, od11, .func (PySem.W.fnOf "_law_letter" "_law_letter" (defArgs s_l_letter) (defBody s_l_letter) (defScope s_l_letter) .none kV11 dc11 pm11 an11 cd11 ct11), sl11⟩) (c11 : PySem.W.codeIn K cd11 "_law_letter" = true) (k11 : PySem.W.keepIn K (.ref f11) = true)
    (a12 : PySem.W.nsIn K mainGlobals "_law_best" = some (some (.ref f12))) (l12 : K.lookup f12 = some ⟨oc12, od12, .func (PySem.W.fnOf "_law_best" "_law_best" (defArgs s_l_best) (defBody s_l_best) (defScope s_l_best) .none kV12 dc12 pm12 an12 cd12 ct12), sl12⟩) (c12 : PySem.W.codeIn K cd12 "_law_best" = true) (k12 : PySem.W.keepIn K (.ref f12) = true)
    (a13 : PySem.W.nsIn K mainGlobals "_law_other" = some (some (.ref f13))) (l13 : K.lookup f13 = some ⟨oc13, od13, .func (PySem.W.fnOf "_law_other" "_law_other" (defArgs s_l_other) (defBody s_l_other) (defScope s_l_other) .none kV13 dc13 pm13 an13 cd13 ct13), sl13⟩) (c13 : PySem.W.codeIn K cd13 "_law_other" = true) (k13 : PySem.W.keepIn K (.ref f13) = true)
    (a14 : PySem.W.nsIn K mainGlobals "_law_due" = some (some (.ref f14))) (l14 : K.lookup f14 = some ⟨oc14, od14, .func (PySem.W.fnOf "_law_due" "_law_due" (defArgs s_l_due) (defBody s_l_due) (defScope s_l_due) .none kV14 dc14 pm14 an14 cd14 ct14), sl14⟩) (c14 : PySem.W.codeIn K cd14 "_law_due" = true) (k14 : PySem.W.keepIn K (.ref f14) = true)
    (a15 : PySem.W.nsIn K mainGlobals "law" = some (some (.ref f15))) (l15 : K.lookup f15 = some ⟨oc15, od15, .func (PySem.W.fnOf "law" "law" (defArgs s_law) (defBody s_law) (defScope s_law) .none kV15 dc15 pm15 an15 cd15 ct15), sl15⟩) (c15 : PySem.W.codeIn K cd15 "law" = true) (k15 : PySem.W.keepIn K (.ref f15) = true)
    (z_len : PySem.W.nsIn K mainGlobals "len" = some none)
    (z_max : PySem.W.nsIn K mainGlobals "max" = some none)
    (z_min : PySem.W.nsIn K mainGlobals "min" = some none)
    (z_range : PySem.W.nsIn K mainGlobals "range" = some none)
    (z_isinstance : PySem.W.nsIn K mainGlobals "isinstance" = some none)
    (z_int : PySem.W.nsIn K mainGlobals "int" = some none)
    (z_bool : PySem.W.nsIn K mainGlobals "bool" = some none)
    (z_tuple : PySem.W.nsIn K mainGlobals "tuple" = some none)
    (z_str : PySem.W.nsIn K mainGlobals "str" = some none)
    (z_list : PySem.W.nsIn K mainGlobals "list" = some none)
    (z_sorted : PySem.W.nsIn K mainGlobals "sorted" = some none)
    (g1START : PySem.W.nsIn K mainGlobals "START" = some (some (.ref gSTART)))
    (g2START : K.lookup gSTART = some ⟨.type "tuple", dSTART, .seq iSTART nSTART, oSTART⟩)
    (g3START : iSTART.size ≤ sizeLine ∧ Vals [.int 0, .str "up"] iSTART.toList)
    (g1LETTERS : PySem.W.nsIn K mainGlobals "LETTERS" = some (some (.str "abc" gLETTERS))) :
    ∃ fd : FuncData, (∀ (s : Shared) (v : Value), BindsTo s fd ⟨[v], []⟩ [("_law_script", v)]) ∧ ∀ base : Heap, K.In base → base.Ns mainGlobals mg → FnOk l.prog w K mg base CX0 8 fa fd ["_law_script"] (sp_law w K) := by
  have e := hfa.symm.trans (PySem.W.mg_of X G a15)
  cases e
  have T : Txt K mg := ⟨PySem.W.mg_none_of X G z_len, PySem.W.mg_none_of X G z_max, PySem.W.mg_none_of X G z_min, PySem.W.mg_none_of X G z_range, PySem.W.mg_none_of X G z_isinstance, PySem.W.mg_none_of X G z_int, PySem.W.mg_none_of X G z_bool, PySem.W.mg_none_of X G z_tuple, PySem.W.mg_none_of X G z_str, PySem.W.mg_none_of X G z_list, PySem.W.mg_none_of X G z_sorted, ⟨_, PySem.W.mg_of X G g1START, rfl, fun H => .inr ⟨_, _, _, g2START, rfl, rfl, g3START.1, g3START.2⟩⟩, ⟨_, PySem.W.mg_of X G g1LETTERS, ⟨_, rfl⟩⟩⟩
  have F1 := fun_mk (st := s_other_way) l1 c1 k1
  have F2 := fun_mk (st := s_reach) l2 c2 k2
  have F3 := fun_mk (st := s_letter_done) l3 c3 k3
  have F4 := fun_mk (st := s_led) l4 c4 k4
  have F5 := fun_mk (st := s_shortest_words) l5 c5 k5
  have F6 := fun_mk (st := s_rules) l6 c6 k6
  have F7 := fun_mk (st := s_l_cell_at) l7 c7 k7
  have F8 := fun_mk (st := s_l_mixed) l8 c8 k8
  have F9 := fun_mk (st := s_l_wheel) l9 c9 k9
  have F10 := fun_mk (st := s_l_sort) l10 c10 k10
  have F11 := fun_mk (st := s_l_letter) l11 c11 k11
  have F12 := fun_mk (st := s_l_best) l12 c12 k12
  have F13 := fun_mk (st := s_l_other) l13 c13 k13
  have F14 := fun_mk (st := s_l_due) l14 c14 k14
  have F15 := fun_mk (st := s_law) l15 c15 k15
  refine ⟨PySem.W.fnOf "law" "law" (defArgs s_law) (defBody s_law) (defScope s_law) .none kV15 dc15 pm15 an15 cd15 ct15, fun s v => .of_eq rfl, fun base _ _ => ?_⟩
  have C_other_way : Has l.prog w K mg base 1 "other_way" ["way"] (sp_other_way w K) := ⟨_, _, ok_other_way F1 T , PySem.W.mg_of X G a1, k1, F1.binds fun _ _ _ _ _ _ us hl => match us, hl with | [_], _ => rfl⟩
  have C_reach : Has l.prog w K mg base 1 "reach" ["sort", "letter"] (sp_reach w K) := ⟨_, _, ok_reach F2 T , PySem.W.mg_of X G a2, k2, F2.binds fun _ _ _ _ _ _ us hl => match us, hl with | [_, _], _ => rfl⟩
  have C_letter_done : Has l.prog w K mg base 2 "letter_done" ["sort", "chord", "letter"] (sp_letter_done w K) := ⟨_, _, ok_letter_done F3 T C_other_way C_reach, PySem.W.mg_of X G a3, k3, F3.binds fun _ _ _ _ _ _ us hl => match us, hl with | [_, _, _], _ => rfl⟩
  have C_led : Has l.prog w K mg base 3 "led" ["sort", "chord", "word"] (sp_led w K) := ⟨_, _, ok_led F4 T C_letter_done, PySem.W.mg_of X G a4, k4, F4.binds fun _ _ _ _ _ _ us hl => match us, hl with | [_, _, _], _ => rfl⟩
  have C_shortest_words : Has l.prog w K mg base 4 "shortest_words" ["sort"] (sp_shortest_words w K) := ⟨_, _, ok_shortest_words F5 T C_led, PySem.W.mg_of X G a5, k5, F5.binds fun _ _ _ _ _ _ us hl => match us, hl with | [_], _ => rfl⟩
  have C_rules : Has l.prog w K mg base 5 "rules" ["sort"] (sp_rules w K) := ⟨_, _, ok_rules F6 T C_led C_shortest_words, PySem.W.mg_of X G a6, k6, F6.binds fun _ _ _ _ _ _ us hl => match us, hl with | [_], _ => rfl⟩
  have C_l_cell_at : Has l.prog w K mg base 1 "_law_cell_at" ["_law_script", "_law_k"] (sp_l_cell_at w K) := ⟨_, _, ok_l_cell_at F7 T , PySem.W.mg_of X G a7, k7, F7.binds fun _ _ _ _ _ _ us hl => match us, hl with | [_, _], _ => rfl⟩
  have C_l_mixed : Has l.prog w K mg base 2 "_law_mixed" ["_law_script", "_law_k", "_law_salt"] (sp_l_mixed w K) := ⟨_, _, ok_l_mixed F8 T C_l_cell_at, PySem.W.mg_of X G a8, k8, F8.binds fun _ _ _ _ _ _ us hl => match us, hl with | [_, _, _], _ => rfl⟩
  have C_l_wheel : Has l.prog w K mg base 3 "_law_wheel" ["_law_script", "_law_most"] (sp_l_wheel w K) := ⟨_, _, ok_l_wheel F9 T C_l_mixed, PySem.W.mg_of X G a9, k9, F9.binds fun _ _ _ _ _ _ us hl => match us, hl with | [_, _], _ => rfl⟩
  have C_l_sort : Has l.prog w K mg base 4 "_law_sort" ["_law_script", "_law_most"] (sp_l_sort w K) := ⟨_, _, ok_l_sort F10 T C_l_mixed C_l_wheel, PySem.W.mg_of X G a10, k10, F10.binds fun _ _ _ _ _ _ us hl => match us, hl with | [_, _], _ => rfl⟩
  have C_l_letter : Has l.prog w K mg base 1 "_law_letter" ["_law_sort_here", "_law_chord", "_law_letter_here"] (sp_l_letter w K) := ⟨_, _, ok_l_letter F11 T , PySem.W.mg_of X G a11, k11, F11.binds fun _ _ _ _ _ _ us hl => match us, hl with | [_, _, _], _ => rfl⟩
  have C_l_best : Has l.prog w K mg base 2 "_law_best" ["_law_sort_here"] (sp_l_best w K) := ⟨_, _, ok_l_best F12 T C_l_letter, PySem.W.mg_of X G a12, k12, F12.binds fun _ _ _ _ _ _ us hl => match us, hl with | [_], _ => rfl⟩
  have C_l_other : Has l.prog w K mg base 3 "_law_other" ["_law_script", "_law_sort_here"] (sp_l_other w K) := ⟨_, _, ok_l_other F13 T C_l_mixed, PySem.W.mg_of X G a13, k13, F13.binds fun _ _ _ _ _ _ us hl => match us, hl with | [_, _], _ => rfl⟩
  have C_l_due : Has l.prog w K mg base 4 "_law_due" ["_law_sort_here"] (sp_l_due w K) := ⟨_, _, ok_l_due F14 T C_l_best C_l_letter, PySem.W.mg_of X G a14, k14, F14.binds fun _ _ _ _ _ _ us hl => match us, hl with | [_], _ => rfl⟩
  exact ok_law F15 T C_l_due C_l_other C_l_sort C_rules
theorem walk {l : PySem.W.OpenLaw} {q : Program} {loose : List Str} {XP : (Str → Option Value) → Heap → Prop} {YP : World → Heap → Prop} {d : DefRec} {K : Params → PySem.W.Frag} (hn : l.most = some 63) (hdf : d.params.defaults = [])
    (hY : ∀ (w : World) (h : Heap), YP w h → (K w.params).In h)
    (F : ∀ (w : World) (mg : Str → Option Value) (fa : Addr) (h : Heap), (K w.params).In h → h.Ns mainGlobals mg → mg d.name = some (.ref fa) →
      ∃ fd : FuncData, (∀ (s : Shared) (u : Value), BindsTo s fd ⟨[u], []⟩ [("_law_script", u)]) ∧ ∀ base : Heap, (K w.params).In base → base.Ns mainGlobals mg → FnOk l.prog w (K w.params) mg base CX0 8 fa fd ["_law_script"] (sp_law w (K w.params))) :
    PySem.W.WalkO q loose XP YP l.row.toRowW d [] (fun f vs => PySem.call f vs) :=
  L2.walk_of (n := 63) (k := 8) (x := "_law_script") (CX := fun _ => CX0) (sp := fun w => sp_law w (K w.params)) hn (by decide) hdf ⟨rfl, by decide, by decide⟩ hY F (fun _ _ a ns hl _ hS => ⟨a, ns, rfl, hS, hl, fun _ => rfl⟩) fun _ _ _ _ _ z => z
end My
open PySem PySem.W PyProof.Rows
set_option maxRecDepth 100000 in
set_option maxHeartbeats 0 in
theorem PySem.Challenge.cw_tonemirror_k26_rules_holds : PySem.Challenge.rw_tonemirror_k26_rules.Holds := by
  w_on; o_law; k_head; (case hw => w_witness2)
  k_fill
  refine My.walk (l := PySem.Challenge.rw_tonemirror_k26_rules) rfl rfl (fun w h Y => PySem.W.kIn_of Y) ?F
  case F =>
    intro w mg fa h KX G hmg
    refine' My.all_mk KX G hmg ?a1 ?l1 ?c1 ?k1 ?a2 ?l2 ?c2 ?k2 ?a3 ?l3 ?c3 ?k3 ?a4 ?l4 ?c4 ?k4 ?a5 ?l5 ?c5 ?k5 ?a6 ?l6 ?c6 ?k6 ?a7 ?l7 ?c7 ?k7 ?a8 ?l8 ?c8 ?k8 ?a9 ?l9 ?c9 ?k9 ?a10 ?l10 ?c10 ?k10 ?a11 ?l11 ?c11 ?k11 ?a12 ?l12 ?c12 ?k12 ?a13 ?l13 ?c13 ?k13 ?a14 ?l14 ?c14 ?k14 ?a15 ?l15 ?c15 ?k15 ?z_len ?z_max ?z_min ?z_range ?z_isinstance ?z_int ?z_bool ?z_tuple ?z_str ?z_list ?z_sorted ?g1START ?g2START ?g3START ?g1LETTERS
    (case a1 => k_is); (case l1 => k_is); (case c1 => k_is); (case k1 => k_is)
    (case a2 => k_is); (case l2 => k_is); (case c2 => k_is); (case k2 => k_is)
    (case a3 => k_is); (case l3 => k_is); (case c3 => k_is); (case k3 => k_is)
    (case a4 => k_is); (case l4 => k_is); (case c4 => k_is); (case k4 => k_is)
    (case a5 => k_is); (case l5 => k_is); (case c5 => k_is); (case k5 => k_is)
    (case a6 => k_is); (case l6 => k_is); (case c6 => k_is); (case k6 => k_is)
    (case a7 => k_is); (case l7 => k_is); (case c7 => k_is); (case k7 => k_is)
    (case a8 => k_is); (case l8 => k_is); (case c8 => k_is); (case k8 => k_is)
    (case a9 => k_is); (case l9 => k_is); (case c9 => k_is); (case k9 => k_is)
    (case a10 => k_is); (case l10 => k_is); (case c10 => k_is); (case k10 => k_is)
    (case a11 => k_is); (case l11 => k_is); (case c11 => k_is); (case k11 => k_is)
    (case a12 => k_is); (case l12 => k_is); (case c12 => k_is); (case k12 => k_is)
    (case a13 => k_is); (case l13 => k_is); (case c13 => k_is); (case k13 => k_is)
    (case a14 => k_is); (case l14 => k_is); (case c14 => k_is); (case k14 => k_is)
    (case a15 => k_is); (case l15 => k_is); (case c15 => k_is); (case k15 => k_is)
    (case z_len => k_is)
    (case z_max => k_is)
    (case z_min => k_is)
    (case z_range => k_is)
    (case z_isinstance => k_is)
    (case z_int => k_is)
    (case z_bool => k_is)
    (case z_tuple => k_is)
    (case z_str => k_is)
    (case z_list => k_is)
    (case z_sorted => k_is)
    (case g1START => k_is)
    (case g2START => k_is)
    (case g3START => exact ⟨by decide, .cons ⟨_, rfl⟩ (.cons ⟨_, rfl⟩ .nil)⟩)
    (case g1LETTERS => k_is)
