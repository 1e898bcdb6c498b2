import PyProof.Rows.All
import Wide.All
import OpenK.AllK
import Wide.FinOn
import Lean
import PyProof.EqAt
import PyProof.EqKinds
import PyProof.TupleCall
import PyProof.Rows.SetFrom
import PyProof.ListRange
import PyProof.Rows.SortWalk
import PyProof.TupleOfStr
import PyProof.CollectStr
import KE.KRevIter
import PyProof.EnumMake
import PyProof.Rows.EnumRows
import PyProof.Rows.SumAny
import PyProof.Draws
import KE.KSortTup
import KE.KLcPair
import PyProof.Rows.TupDisplay
import PyProof.Rows.TupTab
import PyProof.ZipIter
import PyProof.CollectWalk
import PyProof.TupleIter
import PyProof.WalksMore
import PyProof.Rows.CallKwBuiltin
import PyProof.DictWalks
import PyProof.FString5
import PyProof.AttrMiss
import KE.KDictOf
import PyProof.DictItems
import PyProof.MeetsIn
import KE.KPairComp
import OpenK.KOwn
import KE.KTryMore
import PyProof.RulesAs
import KE.KIsAll
import PyProof.ExcArgsOwn
import KE.RegKTryMore
import KE.RegKIsAll
import PyProof.FString5
import PyProof.Rows.StrJoinMade
import PyProof.DictTable
import PyProof.FitsReplace
import PyProof.DictUpdate
import PyProof.NsDelKeeps
import PyProof.StrLawsRepr
import PyProof.DictFindH
import PyProof.TupleKey
import PyProof.MeetsDict
import PyProof.MeetsIn
import PyProof.DictRoadsH
import PyProof.Rows.TupDisplay
import PyProof.Rows.TupTab
import PyProof.ZipIter
import PyProof.Rows.ZipGen
import PyProof.Rows.SumAny
import PyProof.TupleIter
import PyProof.WalksMore
import PyProof.MinMaxWalk
import PyProof.Rows.StrKeys3
import PyProof.StrCalls2
import PyProof.StrLawsTight
import PyProof.StrLawsChain
import PyProof.StrLawsJoin
import PyProof.Rows.RuleN_abs
import PyProof.Rows.SeqGen
import PyProof.StrOps2
import PyProof.StrLawsRepr
import PyProof.StrLawsIn
import PyProof.MinMaxWalk
import PyProof.Rows.CallKwBuiltin
import PyProof.NeKinds
import PySem.Challenge.RW_tonemirror_k34_least
set_option Elab.async false
set_option linter.all false
set_option maxRecDepth 100000
namespace L2
open PySem PySem.Spec PyProof.Rows

/-- a key: an int or a str -/
abbrev Key := Sum Int Str
def keyIs : Key → Value → Bool
  | .inl k, v => Value.isInt k v
  | .inr x, v => Value.isStrOf x v
def keyH (w : World) : Key → Int
  | .inl k => hashInt k
  | .inr x => hashStr w x
theorem keyIs_shape : ∀ {k : Key} {v : Value}, keyIs k v = true → (∃ i t, k = Sum.inl i ∧ v = Value.int i t) ∨ (∃ x t, k = Sum.inr x ∧ v = Value.str x t)
  | .inl i, v, h => by
    obtain ⟨t, e⟩ := Value.isInt_shape (k := i) (v := v) h
    exact .inl ⟨i, t, rfl, e⟩
  | .inr x, v, h => by
    obtain ⟨t, e⟩ := Value.isStrOf_shape (x := x) (v := v) h
    exact .inr ⟨x, t, rfl, e⟩
theorem keyIs_int (i : Int) (t : Tok) : keyIs (.inl i) (.int i t) = true := by simp [keyIs, Value.isInt]
theorem keyIs_str (x : Str) (t : Tok) : keyIs (.inr x) (.str x t) = true := by simp [keyIs, Value.isStrOf]
theorem key_ll (a b : Int) : decide ((Sum.inl a : Key) = Sum.inl b) = (a == b) := by
  by_cases e : a = b
  · subst e; simp
  · have h : ¬ (Sum.inl a : Key) = Sum.inl b := fun q => e (Sum.inl.inj q)
    rw [decide_eq_false h]
    exact (beq_eq_false_iff_ne.mpr e).symm
theorem key_rr (a b : Str) : decide ((Sum.inr a : Key) = Sum.inr b) = decide (a = b) := by
  by_cases e : a = b
  · subst e; simp
  · have h : ¬ (Sum.inr a : Key) = Sum.inr b := fun q => e (Sum.inr.inj q)
    rw [decide_eq_false h, decide_eq_false e]
theorem key_lr (a : Int) (b : Str) : decide ((Sum.inl a : Key) = Sum.inr b) = false := decide_eq_false (fun q => nomatch q)
theorem key_rl (a : Str) (b : Int) : decide ((Sum.inr a : Key) = Sum.inl b) = false := decide_eq_false (fun q => nomatch q)

def mixKind (prog : Program) (w : World) : PySem.KeyKind prog w Key where
  is := keyIs
  hash := keyH w
  inj := fun v a b ha hb => by
    rcases keyIs_shape ha with ⟨i, t, rfl, rfl⟩ | ⟨x, t, rfl, rfl⟩
    · rcases keyIs_shape hb with ⟨j, u, rfl, e⟩ | ⟨y, u, rfl, e⟩
      · injection e with e1 _; rw [e1]
      · exact nomatch e
    · rcases keyIs_shape hb with ⟨j, u, rfl, e⟩ | ⟨y, u, rfl, e⟩
      · exact nomatch e
      · injection e with e1 _; rw [e1]
  byValue := fun k v h => by
    rcases keyIs_shape h with ⟨i, t, rfl, rfl⟩ | ⟨x, t, rfl, rfl⟩ <;> rfl
  pyHash := fun hv h => by
    rcases keyIs_shape hv with ⟨i, t, rfl, rfl⟩ | ⟨x, t, rfl, rfl⟩
    · exact wpAny_pyHash_int h
    · exact wpAny_pyHash_str h
  eqBool := fun hu hv h => by
    rcases keyIs_shape hu with ⟨i, t, rfl, rfl⟩ | ⟨x, t, rfl, rfl⟩
    · rcases keyIs_shape hv with ⟨j, u, rfl, rfl⟩ | ⟨y, u, rfl, rfl⟩
      · rw [key_ll] at h; exact wpAny_eqBool_int h
      · rw [key_lr] at h; exact SeqAt.EqAt.int_str i t y u _ _ _ _ h
    · rcases keyIs_shape hv with ⟨j, u, rfl, rfl⟩ | ⟨y, u, rfl, rfl⟩
      · rw [key_rl] at h; exact SeqAt.EqAt.str_int x t j u _ _ _ _ h
      · rw [key_rr] at h; exact wpAny_eqBool_str h
  «strs» := fun k x t v h => by
    rcases keyIs_shape h with ⟨i, u, rfl, e⟩ | ⟨y, u, rfl, e⟩
    · exact nomatch e
    · injection e with e1 _
      subst e1
      cases v <;> rfl

theorem mixKind_int (prog : Program) (w : World) (i : Int) (t : Tok) : (mixKind prog w).is (.inl i) (.int i t) = true := keyIs_int i t
theorem mixKind_str (prog : Program) (w : World) (x : Str) (t : Tok) : (mixKind prog w).is (.inr x) (.str x t) = true := keyIs_str x t
end L2

namespace L2
open PySem PySem.Spec PyProof.Rows

/-- a value, without the heap -/
inductive V where
  | non | bl (b : Bool) | int (i : Int) | str (x : Str) | byt (b : Array UInt8) | flt (b : UInt64) | ref (a : Addr) | ty (n : String)
  deriving DecidableEq

def RelV : V → Value → Prop
  | .non, u => u = Value.none
  | .bl b, u => u = Value.bool b
  | .int i, u => ∃ t, u = Value.int i t
  | .str x, u => ∃ t, u = Value.str x t
  | .byt b, u => ∃ t, u = Value.bytes b t
  | .flt b, u => ∃ t, u = Value.float b t
  | .ref a, u => u = Value.ref a
  | .ty n, u => u = Value.type n

abbrev Vals : List V → List Value → Prop := Paired RelV
theorem Vals.length {xs : List V} {us : List Value} (r : Vals xs us) : xs.length = us.length := Paired.length r
theorem Vals.get : ∀ {xs : List V} {us : List Value} {i : Nat} {x : V}, Vals xs us → xs[i]? = some x → ∃ u, us[i]? = some u ∧ RelV x u
  | _, _, _, _, .nil, e => by simp at e
  | _, _, 0, _, .cons r _, e => by simp at e; subst e; exact ⟨_, rfl, r⟩
  | _, _, i + 1, x, .cons _ t, e => by
    obtain ⟨u, h1, h2⟩ := Vals.get (i := i) (x := x) t (by simpa using e)
    exact ⟨u, by simpa using h1, h2⟩
theorem Vals.append : ∀ {xs ys : List V} {us ws : List Value}, Vals xs us → Vals ys ws → Vals (xs ++ ys) (us ++ ws)
  | _, _, _, _, .nil, s => s
  | _, _, _, _, .cons r t, s => .cons r (Vals.append t s)
theorem Vals.take : ∀ {xs : List V} {us : List Value} (n : Nat), Vals xs us → Vals (xs.take n) (us.take n)
  | _, _, 0, _ => .nil
  | _, _, _ + 1, .nil => .nil
  | _, _, n + 1, .cons r t => .cons r (Vals.take n t)
theorem Vals.drop : ∀ {xs : List V} {us : List Value} (n : Nat), Vals xs us → Vals (xs.drop n) (us.drop n)
  | _, _, 0, r => r
  | _, _, _ + 1, .nil => .nil
  | _, _, n + 1, .cons _ t => Vals.drop n t
def RelO : Option V → Option Value → Prop
  | some v, some u => RelV v u
  | none, none => True
  | _, _ => False
def KV {κ : Type} : List (κ × V) → List (κ × Value) → Prop := Paired fun (p : κ × V) (q : κ × Value) => p.1 = q.1 ∧ RelV p.2 q.2

/-- a key of a dict (00_mix): an int or a text -/
def kV : Key → V
  | .inl i => .int i
  | .inr x => .str x

/-- what stands at a tracked address -/
inductive HO where
  /-- a list -/
  | lst (xs : List V)
  /-- a tuple (never changes) -/
  | tup (xs : List V)
  /-- a dict whose keys are ints and texts; one whose keys are tuples of ints and texts (the empty one is both) -/
  | dK (kvs : List (Key × V)) | dT (kvs : List (List Key × V))
  /-- a set of ints: its members, its size -/
  | set (S : Int → Bool) (n : Nat)
  /-- an instance of the class at C, its dict at dx, its attributes -/
  | ins (C dx : Addr) (fs : List (Str × V))
  /-- the dict of the instance at x -/
  | own (x : Addr)
  /-- the dict of an exception -/
  | xd (fs : List (Str × V))
  /-- a bound method, f of x -/
  | met (f x : Addr)
  /-- a range object lo, lo + 1, .. below hi -/
  | rng (lo hi : Int)
  /-- a thing that is known to the object (the script; a dict while a loop walks it): read, never written while it is so -/
  | frz (o : Obj) (u : HO)
  /-- a code object's table -/
  | tbl (ps : Array Value)
  /-- any other thing, by what is true of its one object (a def of one's own: SetO a S n := HO.ext fun h => ..) -/
  | ext (φ : Heap → Prop)

abbrev Hp := Addr → Option HO
def upd (H : Hp) (a : Addr) (o : HO) : Hp := fun b => if b = a then some o else H b
theorem upd_same {H : Hp} {a : Addr} {o : HO} : upd H a o a = some o := by unfold upd; rw [if_pos rfl]
theorem upd_ne {H : Hp} {a b : Addr} {o : HO} (h : b ≠ a) : upd H a o b = H b := by unfold upd; rw [if_neg h]
theorem ne_of_none {H : Hp} {a b : Addr} {o : HO} (h : H a = some o) (h' : H b = none) : a ≠ b := by
  intro e; subst e; rw [h] at h'; cases h'

section
variable (P : Program) (w : World)
def ObjOk (H : Hp) (h : Heap) (a : Addr) : HO → Prop
  | .lst xs => xs.length ≤ sizeLine ∧ ∃ (its : List Value) (n : Nat), Vals xs its ∧ h.get? a = some { cls := .type "list", data := .seq its.toArray n }
  | .tup xs => xs.length ≤ sizeLine ∧ ∃ its : List Value, Vals xs its ∧ IsTup h a its.toArray
  | .dK kvs => kvs.length ≤ sizeLine ∧ (a == sysModules) = false ∧ ∃ vs, KV kvs vs ∧ h.DictOf (mixKind P w) a vs
  | .dT kvs => kvs.length ≤ sizeLine ∧ (a == sysModules) = false ∧ ∃ xs : List (List Key × Addr × Value),
      Paired (fun (p : List Key × V) (q : List Key × Addr × Value) => p.1 = q.1 ∧ H q.2.1 = some (.tup (p.1.map kV)) ∧ RelV p.2 q.2.2) kvs xs ∧
      ∃ o es ep, h.get? a = some o ∧ o.ExactDict ∧ o.data = .dict es ep ∧ es.toList = xs.map (entryOfKey (tupleKind (mixKind P w))) ∧ (xs.map (·.1)).Nodup
  | .set S n => h.SetOf (intKind P w) a S n
  | .ins C dx fs => H dx = some (.own a) ∧ fs.length ≤ 1000 ∧ dx ≠ a ∧ h.get? a = some (PySem.W.instObj C dx) ∧
      ∃ mA, h.Ns1 dx mA ∧ (∀ f, RelO (fs.lookup f) (mA f)) ∧ PySem.Within mA (fs.map (·.1))
  | .own _ => ∃ o, h.get? a = some o
  | .xd fs => ∃ mA, h.Ns1 a mA ∧ ∀ f, RelO (fs.lookup f) (mA f)
  | .rng lo hi => ∃ t u v, h.get? a = some { cls := .type "range", data := .fields #[.int lo t, .int hi u, .int 1 v] }
  | .frz o u => h.get? a = some o ∧ ObjOk H h a u
  | .tbl ps => h.get? a = some { cls := .none, data := .fields ps }
  | .met f x => h.get? a = some (PySem.W.methodObj (.ref f) (.ref x))
  | .ext φ => φ h ∧ (∃ o, h.get? a = some o) ∧ ∀ h1 h2 : Heap, φ h1 → (∀ o, h1.get? a = some o → h2.get? a = some o) → φ h2
/-- the abstract heap is held -/
def HOk (H : Hp) (h : Heap) : Prop := ∀ a o, H a = some o → ObjOk P w H h a o
end

section
variable {P : Program} {w : World} {H H' : Hp} {h h' : Heap} {a : Addr} {o : HO}
theorem ObjOk.lt (x : ObjOk P w H h a o) : a < h.objs.size := by
  cases o with
  | lst xs => obtain ⟨_, _, _, _, e⟩ := x; exact Heap.lt_size e
  | tup xs => obtain ⟨_, _, _, p⟩ := x; exact p.lt
  | dK kvs => obtain ⟨_, _, _, _, o, _, _, e, _⟩ := x; exact Heap.lt_size e
  | dT kvs => obtain ⟨_, _, _, _, o, _, _, e, _⟩ := x; exact Heap.lt_size e
  | set S n => obtain ⟨o, _, _, _, e, _⟩ := x; exact Heap.lt_size e
  | ins C dx fs => obtain ⟨_, _, _, e, _⟩ := x; exact Heap.lt_size e
  | own y => obtain ⟨_, e⟩ := x; exact Heap.lt_size e
  | xd fs => obtain ⟨_, ⟨_, _, _, e, _⟩, _⟩ := x; exact Heap.lt_size e
  | rng lo hi => obtain ⟨_, _, _, e⟩ := x; exact Heap.lt_size e
  | frz ob u => obtain ⟨e, _⟩ := x; exact Heap.lt_size e
  | tbl ps => exact Heap.lt_size (show h.get? a = some _ from x)
  | met f y => exact Heap.lt_size (show h.get? a = some _ from x)
  | ext φ => obtain ⟨_, ⟨_, e⟩, _⟩ := x; exact Heap.lt_size e
theorem Paired.mapP {α β : Type} {F G : α → β → Prop} : ∀ {l₁ : List α} {l₂ : List β}, Paired F l₁ l₂ → (∀ a b, F a b → G a b) → Paired G l₁ l₂
  | _, _, .nil, _ => .nil
  | _, _, .cons r t, f => .cons (f _ _ r) (Paired.mapP t f)
/-- what an object's description leans on: its own object, its own dict, the tuples -/
theorem ObjOk.stay (x : ObjOk P w H h a o) (k : ∀ b u, (b = a ∨ H b = some (.own a)) → h.get? b = some u → h'.get? b = some u)
    (ho : ∀ b, H b = some (.own a) → H' b = some (.own a)) (ht : ∀ b xs, H b = some (.tup xs) → H' b = some (.tup xs)) : ObjOk P w H' h' a o := by
  induction o with
  | lst xs => obtain ⟨z, its, n, r, e⟩ := x; exact ⟨z, its, n, r, k _ _ (.inl rfl) e⟩
  | tup xs => obtain ⟨z, its, r, ob, e, c⟩ := x; exact ⟨z, its, r, ob, k _ _ (.inl rfl) e, c⟩
  | dK kvs => obtain ⟨z, y, vs, r, ob, es, ep, e, c⟩ := x; exact ⟨z, y, vs, r, ob, es, ep, k _ _ (.inl rfl) e, c⟩
  | dT kvs =>
    obtain ⟨z, y, xs, r, ob, es, ep, e, c⟩ := x
    exact ⟨z, y, xs, Paired.mapP r fun p q z => ⟨z.1, ht _ _ z.2.1, z.2.2⟩, ob, es, ep, k _ _ (.inl rfl) e, c⟩
  | set S n => obtain ⟨ob, es, ep, t, e, c⟩ := x; exact ⟨ob, es, ep, t, k _ _ (.inl rfl) e, c⟩
  | ins C dx fs =>
    obtain ⟨d, z, ne, e, mA, ⟨od, es, ep, e2, c⟩, r⟩ := x
    exact ⟨ho _ d, z, ne, k _ _ (.inl rfl) e, mA, ⟨od, es, ep, k _ _ (.inr d) e2, c⟩, r⟩
  | own y => obtain ⟨ob, e⟩ := x; exact ⟨ob, k _ _ (.inl rfl) e⟩
  | xd fs => obtain ⟨mA, ⟨od, es, ep, e, c⟩, r⟩ := x; exact ⟨mA, ⟨od, es, ep, k _ _ (.inl rfl) e, c⟩, r⟩
  | rng lo hi => obtain ⟨t, u, v, e⟩ := x; exact ⟨t, u, v, k _ _ (.inl rfl) e⟩
  | frz ob u ih => obtain ⟨e, q⟩ := x; exact ⟨k _ _ (.inl rfl) e, ih q⟩
  | tbl ps =>
    have e : h.get? a = some { cls := .none, data := .fields ps } := x
    show h'.get? a = some { cls := .none, data := .fields ps }
    exact k a _ (.inl rfl) e
  | met f y =>
    have e : h.get? a = some (PySem.W.methodObj (.ref f) (.ref y)) := x
    show h'.get? a = some (PySem.W.methodObj (.ref f) (.ref y))
    exact k a _ (.inl rfl) e
  | ext φ => obtain ⟨p, ⟨o, e⟩, st⟩ := x; exact ⟨st _ _ p fun o q => k _ _ (.inl rfl) q, ⟨o, k _ _ (.inl rfl) e⟩, st⟩
theorem HOk.lt (x : HOk P w H h) (e : H a = some o) : a < h.objs.size := (x a o e).lt
theorem HOk.fresh (x : HOk P w H h) (e : h.objs.size ≤ a) : H a = none := by
  cases q : H a with
  | none => rfl
  | some u => exact absurd (Nat.lt_of_lt_of_le (x.lt q) e) (Nat.lt_irrefl _)
/-- every object of the heap is kept -/
theorem HOk.kept (x : HOk P w H h) (k : ∀ b u, h.get? b = some u → h'.get? b = some u) : HOk P w H h' := fun a o e =>
  (x a o e).stay (fun b u _ q => k b u q) (fun _ q => q) fun _ _ q => q
/-- a new object is laid and tracked -/
theorem HOk.laid (x : HOk P w H h) (k : ∀ b u, h.get? b = some u → h'.get? b = some u) (hp : h.objs.size ≤ a) (new : ObjOk P w (upd H a o) h' a o) : HOk P w (upd H a o) h' := fun b u e => by
  have hn := x.fresh hp
  by_cases hb : b = a
  · subst hb; rw [upd_same] at e; cases e; exact new
  · rw [upd_ne hb] at e
    exact (x b u e).stay (fun c v _ q => k c v q) (fun c q => by rw [upd_ne (ne_of_none q hn)]; exact q) fun c xs q => by rw [upd_ne (ne_of_none q hn)]; exact q
end

/-- what may be read as u: it is u, or a known u -/
def Rd (H : Hp) (a : Addr) (u : HO) : Prop := H a = some u ∨ ∃ o, H a = some (.frz o u)
theorem Rd.ok {P : Program} {w : World} {H : Hp} {h : Heap} {a : Addr} {u : HO} (r : Rd H a u) (x : HOk P w H h) : ObjOk P w H h a u := by
  rcases r with r | ⟨o, r⟩
  · exact x a u r
  · obtain ⟨_, q⟩ := x a _ r
    exact q
/-- what may be written -/
def Mut : Option HO → Prop
  | some (.lst _) => True
  | some (.dK _) => True
  | some (.dT _) => True
  | some (.set _ _) => True
  | some (.ins _ _ _) => True
  | some (.ext _) => True
  | _ => False
section
variable {P : Program} {w : World} {H : Hp} {h h' : Heap} {x e : Addr} {o' : HO}
/-- the object at e is changed: x itself, or the dict of the instance x -/
theorem HOk.write (ok : HOk P w H h) (mu : Mut (H x)) (he : e = x ∨ H e = some (.own x)) (k : ∀ b u, b ≠ e → h.get? b = some u → h'.get? b = some u) (heo : ∃ u, h'.get? e = some u)
    (new : ObjOk P w (upd H x o') h' x o') : HOk P w (upd H x o') h' := fun b u q => by
  have nown : ∀ c y, H c = some (.own y) → c ≠ x := fun c y r z => by subst z; rw [r] at mu; exact mu
  have ntup : ∀ c xs, H c = some (.tup xs) → c ≠ x := fun c xs r z => by subst z; rw [r] at mu; exact mu
  by_cases hb : b = x
  · subst hb; rw [upd_same] at q; cases q; exact new
  · rw [upd_ne hb] at q
    by_cases hbe : b = e
    · have q' : H b = some (.own x) := by
        rcases he with z | z
        · exact absurd (hbe.trans z) hb
        · rw [hbe]; exact z
      rw [q] at q'; cases q'
      obtain ⟨v, hv⟩ := heo
      exact ⟨v, by rw [hbe]; exact hv⟩
    · refine (ok b u q).stay (fun c v hc r => k c v ?_ r) (fun c r => by rw [upd_ne (nown c b r)]; exact r) fun c xs r => by rw [upd_ne (ntup c xs r)]; exact r
      rcases hc with rfl | hc
      · exact hbe
      · rintro rfl
        rcases he with z | z
        · exact nown c b hc z
        · rw [hc] at z; cases z; exact hb rfl
end

structure Un (fs ex : List Addr) (H H' : Hp) (h h' : Heap) : Prop where
  keep : ∀ b o, h.get? b = some o → H b = none → b ∉ fs → b ∉ ex → h'.get? b = some o
  slot : ∀ b o, h.get? b = some o → H b = none → b ∈ fs → b ∉ ex → ∃ sl, h'.get? b = some { o with slots := sl }
  free : ∀ b o, h.get? b = some o → H b = none → b ∉ ex → H' b = none
  there : ∀ b o, h.get? b = some o → b ∉ ex → ∃ o', h'.get? b = some o'
  tups : ∀ b xs, H b = some (.tup xs) → H' b = some (.tup xs)
  frzs : ∀ b o u, H b = some (.frz o u) → H' b = some (.frz o u)
  tbls : ∀ b ps, H b = some (.tbl ps) → ∃ more, H' b = some (.tbl (ps ++ more))
section
variable {fs fs' ex ex' : List Addr} {H H1 H2 : Hp} {h h1 h2 h' : Heap} {a x e : Addr} {o : HO}
theorem Un.any (u : Un fs ex H H1 h h1) {b : Addr} {ob : Obj} (q : h.get? b = some ob) (n : H b = none) (hx : b ∉ ex) : ∃ sl, h1.get? b = some { ob with slots := sl } := by
  by_cases hb : b ∈ fs
  · exact u.slot b ob q n hb hx
  · exact ⟨ob.slots, u.keep b ob q n hb hx⟩
theorem Un.kept (k : ∀ b u, h.get? b = some u → h'.get? b = some u) : Un fs ex H H h h' :=
  ⟨fun b ob q _ _ _ => k b ob q, fun b ob q _ _ _ => ⟨ob.slots, k b ob q⟩, fun _ _ _ n _ => n, fun b ob q _ => ⟨ob, k b ob q⟩, fun _ _ q => q, fun _ _ _ q => q, fun _ ps q => ⟨#[], by rw [q]; simp⟩⟩
theorem Un.refl : Un fs ex H H h h := Un.kept fun _ _ q => q
theorem Un.laid (k : ∀ b u, h.get? b = some u → h'.get? b = some u) (hp : h.objs.size ≤ a) (hn : H a = none) : Un fs ex H (upd H a o) h h' where
  keep := fun b u q _ _ _ => k b u q
  slot := fun b u q _ _ _ => ⟨u.slots, k b u q⟩
  free := fun b u q n _ => by rw [upd_ne (Nat.ne_of_lt (Nat.lt_of_lt_of_le (Heap.lt_size q) hp))]; exact n
  there := fun b u q _ => ⟨u, k b u q⟩
  tups := fun b xs q => by rw [upd_ne (ne_of_none q hn)]; exact q
  frzs := fun b u xs q => by rw [upd_ne (ne_of_none q hn)]; exact q
  tbls := fun b ps q => ⟨#[], by rw [upd_ne (ne_of_none q hn), q]; simp⟩
theorem Un.write (mu : Mut (H x)) (he : e = x ∨ H e = some (.own x)) (k : ∀ b u, b ≠ e → h.get? b = some u → h'.get? b = some u) (heo : ∃ u, h'.get? e = some u) : Un fs ex H (upd H x o) h h' := by
  have hx : ∀ b, H b = none → b ≠ x := fun b n z => by subst z; rw [n] at mu; exact mu
  have hb : ∀ b, H b = none → b ≠ e := fun b n z => by
    subst z
    rcases he with r | r
    · exact hx b n r
    · rw [n] at r; cases r
  have hm : ∀ b u, H b = some u → ¬ Mut (some u) → b ≠ x := fun b u q nm z => by subst z; rw [q] at mu; exact nm mu
  refine ⟨fun b u q n _ _ => k b u (hb b n) q, fun b u q n _ _ => ⟨u.slots, k b u (hb b n) q⟩, fun b u q n _ => by rw [upd_ne (hx b n)]; exact n, fun b u q _ => ?_,
    fun b xs q => by rw [upd_ne (hm b _ q fun z => z)]; exact q, fun b u xs q => by rw [upd_ne (hm b _ q fun z => z)]; exact q, fun b ps q => ⟨#[], by rw [upd_ne (hm b _ q fun z => z), q]; simp⟩⟩
  by_cases hbe : b = e
  · subst hbe; exact heo
  · exact ⟨u, k b u hbe q⟩
end

def trk (h : Heap) (H : Hp) : List Addr := (List.range h.objs.size).filter fun a => (H a).isSome
def hidT (h : Heap) (H : Hp) : Heap := PySem.W.hideAll h (trk h H)
theorem hidT_size (h : Heap) (H : Hp) : (hidT h H).objs.size = h.objs.size := PySem.W.hideAll_size _ _
theorem hidT_get {h : Heap} {H : Hp} {b : Addr} {o : Obj} (e : h.get? b = some o) (n : H b = none) : (hidT h H).get? b = some o :=
  PySem.W.hideAll_get _ e fun hm => by
    have q : (H b).isSome = true := (List.mem_filter.mp hm).2
    rw [n] at q; simp at q
theorem of_hidT {h : Heap} {H : Hp} {b : Addr} {o : Obj} (e : (hidT h H).get? b = some o) : h.get? b = some o ∧ H b = none := by
  have e' : h.get? b = some o := PySem.W.of_hideAll (trk h H) e
  refine ⟨e', ?_⟩
  cases q : H b with
  | none => rfl
  | some x =>
    have hm : b ∈ trk h H := List.mem_filter.mpr ⟨List.mem_range.mpr (Heap.lt_size e'), by simp [q]⟩
    have z : (hidT h H).get? b = none := PySem.W.hideAll_none (trk h H) hm
    rw [z] at e; cases e

end L2

namespace L2
open PySem PySem.Spec PyProof.Rows

/-- the module's facts, over the base: the heap at the law's entry without what is tracked there -/
structure Mod (K : PySem.W.Frag) (mg : Str → Option Value) (base : Heap) : Prop where
  kin : K.In base
  glob : base.Ns mainGlobals mg
  blt : ∃ mb, base.Ns builtinsNs mb ∧ ∀ x : Str, x ≠ "__name__" → mb x = bootBuiltins x
  nolimit : base.NoLimit

/-- the context: a def's body (or a comprehension's block) running. base: fixed through the whole law; s₀, H₀: the entry; outer: the frames whose slots others may change (a def's callers); stack: all frames that run;
   ex: iterators that were made ahead of the entry and are walked here (a comprehension's); fn: the names whose cells were made at the entry (a def: all; a comprehension's block: its own); calm: not within an except suite; pn: pins that every state bears; xe: what is wanted of an exception that leaves the code -/
structure Cx where
  prog : Program
  w : World
  K : PySem.W.Frag
  mg : Str → Option Value
  base : Heap
  A : Around
  N : List Str
  s₀ : Shared
  H₀ : Hp
  env : Env
  outer : List Env
  stack : List Env
  ex : List Addr
  fn : Str → Bool
  calm : Bool
  pn : List (Addr × Obj)
  xe : Value → Shared → Prop
/-- the callers' frames -/
def frs (l : List Env) : List Addr := l.filterMap (·.frame)
abbrev Cx.fs (X : Cx) : List Addr := frs X.outer

def Vis (sc : Scope) (x : Str) : Prop := sc.names.lookup x = some .local ∨ sc.names.lookup x = some .cell ∨ sc.names.lookup x = some .free
def Loc (sc : Scope) (x : Str) : Prop := sc.names.lookup x = some .local ∨ sc.names.lookup x = some .cell
def Look (env : Env) (h : Heap) (m : Str → Option Value) (x : Str) (u : Value) : Prop :=
  (env.kindOf x = some .local ∧ m x = some u) ∨ ((env.kindOf x = some .cell ∨ env.kindOf x = some .free) ∧ ∃ c, env.cells.lookup x = some c ∧ h.IsCell c (some u))

structure Cx.Ok (X : Cx) : Prop where
  mod : Mod X.K X.mg X.base
  kind : X.env.scope.kind = .function
  glob : X.env.globals = mainGlobals
  blt : X.env.builtins = builtinsNs
  above : X.s₀.heap.objs.size ≤ X.env.locals
  inj : ∀ x y c, X.env.cells.lookup x = some c → X.env.cells.lookup y = some c → x = y
  has : ∀ x, (X.env.kindOf x = some .cell ∨ X.env.kindOf x = some .free) → ∃ c, X.env.cells.lookup x = some c
  cab : ∀ x c, X.fn x = true → X.env.cells.lookup x = some c → X.s₀.heap.objs.size ≤ c
  hd : X.calm = true → X.A.handled = none
  frames : X.A.frames = some X.stack
  stk : X.stack = X.outer ∨ (X.stack = X.env :: X.outer ∧ X.env.frame = some X.env.locals)
  exf : ∀ b ∈ X.ex, b ≠ X.env.locals ∧ ∀ x c, X.env.cells.lookup x = some c → c ≠ b
  bs : ∀ b o, X.base.get? b = some o → X.s₀.heap.get? b = some o ∧ X.H₀ b = none
  bsz : X.base.objs.size ≤ X.s₀.heap.objs.size
  noex : ∀ b o, X.base.get? b = some o → b ∉ X.ex
  exfs : ∀ b ∈ X.ex, b ∉ X.fs
  funs : X.s₀.heap.FunFrames X.base X.outer
  frf : ∀ b ∈ X.fs, X.H₀ b = none

structure Inv (X : Cx) (pins : List (Addr × Obj)) (σ : List (Option V)) (H : Hp) (s : Shared) : Prop where
  ok : X.Ok
  os : s.os = X.s₀.os
  bare : AllBare s.gens
  base : Un X.fs X.ex X.H₀ H X.s₀.heap s.heap
  loc : ∃ m, s.heap.Ns X.env.locals m ∧ ∀ (i : Nat) (x : Str) (v : V), X.N[i]? = some x → σ[i]? = some (some v) → Vis X.env.scope x → ∃ u, RelV v u ∧ Look X.env s.heap m x u
  cell : ∀ x c, X.env.cells.lookup x = some c → ∃ v, s.heap.IsCell c v
  free : H X.env.locals = none
  freeC : ∀ x c, X.env.cells.lookup x = some c → H c = none
  pin : ∀ p ∈ X.pn ++ pins, s.heap.get? p.1 = some p.2 ∧ H p.1 = none ∧ p.1 ≠ X.env.locals ∧ p.1 ∉ X.fs ∧ ∀ v, p.2.data ≠ .cell v
  hok : HOk X.prog X.w H s.heap
  len : σ.length = X.N.length

section
variable {X : Cx} {pins : List (Addr × Obj)} {σ : List (Option V)} {H H' : Hp} {s : Shared} {h' : Heap}

theorem Cx.Ok.nofr (ok : X.Ok) {b : Addr} {o : Obj} (e : X.base.get? b = some o) : b ∉ X.fs := fun hb => by
  have := (ok.funs.mem hb).1
  rw [e] at this; cases this
theorem Inv.bs (I : Inv X pins σ H s) : ∀ b o, X.base.get? b = some o → s.heap.get? b = some o ∧ H b = none := fun b o e =>
  ⟨I.base.keep b o (I.ok.bs b o e).1 (I.ok.bs b o e).2 (I.ok.nofr e) (I.ok.noex b o e), I.base.free b o (I.ok.bs b o e).1 (I.ok.bs b o e).2 (I.ok.noex b o e)⟩
theorem Inv.bk (I : Inv X pins σ H s) : ∀ b o, X.base.get? b = some o → s.heap.get? b = some o := fun b o e => (I.bs b o e).1
theorem Inv.mod (I : Inv X pins σ H s) : Mod X.K X.mg X.base := I.ok.mod
theorem Inv.kIn (I : Inv X pins σ H s) : X.K.In s.heap := I.ok.mod.kin.keeps I.bk
theorem Inv.lt (I : Inv X pins σ H s) : X.env.locals < s.heap.objs.size := let ⟨_, hn, _⟩ := I.loc; hn.lt
theorem Inv.sz (I : Inv X pins σ H s) : X.s₀.heap.objs.size ≤ s.heap.objs.size := Nat.le_trans I.ok.above (Nat.le_of_lt I.lt)
theorem Inv.nofs (I : Inv X pins σ H s) {a : Addr} (h : s.heap.objs.size ≤ a) : a ∉ X.fs := fun hb => by
  obtain ⟨_, o, ho, _⟩ := I.ok.funs.mem hb
  exact absurd (Nat.lt_of_lt_of_le (Heap.lt_size ho) (Nat.le_trans I.sz h)) (Nat.lt_irrefl _)
theorem Inv.cne (I : Inv X pins σ H s) : ∀ x c, X.env.cells.lookup x = some c → c ≠ X.env.locals := fun x c e z => by
  obtain ⟨v, o, ho, hd⟩ := I.cell x c e
  obtain ⟨m, ⟨o', es, ep, ho', hd', _⟩, _⟩ := I.loc
  rw [z, ho'] at ho; cases ho; rw [hd'] at hd; cases hd
theorem Inv.funs (I : Inv X pins σ H s) : s.heap.FunFrames X.base X.outer := by
  have all : ∀ (l : List Env), (∀ b ∈ frs l, b ∈ X.fs) → X.s₀.heap.FunFrames X.base l → s.heap.FunFrames X.base l := by
    intro l
    induction l with
    | nil => intro _ _; trivial
    | cons env r ih =>
      intro hs hl
      obtain ⟨hk, ⟨L, o, hf, hn, ho, hd⟩, hr⟩ := hl
      have hL : L ∈ X.fs := hs L (by unfold frs; rw [List.filterMap_cons, hf]; exact List.mem_cons_self)
      obtain ⟨sl, e⟩ := I.base.slot L o ho (I.ok.frf L hL) hL fun z => I.ok.exfs L z hL
      exact ⟨hk, ⟨L, _, hf, hn, e, hd⟩, ih (fun b hb => hs b (by unfold frs; rw [List.filterMap_cons, hf]; exact List.mem_cons_of_mem _ hb)) hr⟩
  exact all X.outer (fun _ hb => hb) I.ok.funs

/-- the frames that run, for a call -/
theorem Inv.stack (I : Inv X pins σ H s) : s.heap.FunFrames X.base X.stack := by
  rcases I.ok.stk with e | ⟨e, hf⟩
  · rw [e]; exact I.funs
  · rw [e]
    obtain ⟨m, hn, _⟩ := I.loc
    refine .cons (by rw [I.ok.kind]; decide) hf hn ?_ I.funs
    exact Heap.get?_none_of_le (Nat.le_trans I.ok.bsz I.ok.above)
theorem Inv.stkSub (I : Inv X pins σ H s) : ∀ b ∈ frs X.stack, b ∈ X.env.locals :: X.fs := fun b hb => by
  rcases I.ok.stk with e | ⟨e, hf⟩
  · rw [e] at hb; exact List.mem_cons_of_mem _ hb
  · rw [e] at hb
    unfold frs at hb
    rw [List.filterMap_cons, hf] at hb
    exact hb
theorem Inv.stkFree (I : Inv X pins σ H s) : ∀ b ∈ frs X.stack, H b = none := fun b hb => by
  rcases List.mem_cons.mp (I.stkSub b hb) with e | hb
  · rw [e]; exact I.free
  · obtain ⟨_, o, ho, _⟩ := I.ok.funs.mem hb
    exact I.base.free b o ho (I.ok.frf b hb) fun z => I.ok.exfs b z hb

/-- THE STEP: the untracked objects but the frame and the records at ch are kept (the callers' frames up to slots), the frame's map is kept, the new abstract heap is held -/
theorem Inv.step {g' : Array GenState} {t' : Nat} {d' : Drawn} {ch : List Addr} (I : Inv X pins σ H s)
    (hch : ∀ b ∈ ch, (b ∈ X.ex ∨ X.s₀.heap.objs.size ≤ b) ∧ b ≠ X.env.locals ∧ (∀ x c, X.env.cells.lookup x = some c → c ≠ b) ∧ ∀ p ∈ X.pn ++ pins, p.1 ≠ b)
    (keep : ∀ b o, b ≠ X.env.locals → b ∉ X.fs → b ∉ ch → s.heap.get? b = some o → H b = none → h'.get? b = some o)
    (slot : ∀ b o, b ≠ X.env.locals → b ∈ X.fs → b ∉ ch → s.heap.get? b = some o → H b = none → ∃ sl, h'.get? b = some { o with slots := sl }) (free : ∀ b o, b ∉ ch → s.heap.get? b = some o → H b = none → H' b = none)
    (there : ∀ b o, b ∉ ch → s.heap.get? b = some o → ∃ o', h'.get? b = some o')
    (tups : ∀ b xs, H b = some (.tup xs) → H' b = some (.tup xs)) (frzs : ∀ b o u, H b = some (.frz o u) → H' b = some (.frz o u)) (tbls : ∀ b ps, H b = some (.tbl ps) → ∃ more, H' b = some (.tbl (ps ++ more)))
    (ns : ∀ m, s.heap.Ns X.env.locals m → h'.Ns X.env.locals m) (hok : HOk X.prog X.w H' h') (hg : AllBare g') :
    Inv X pins σ H' { s with heap := h', gens := g', drawn := d', toks := t' } := by
  have neL : ∀ b o, X.s₀.heap.get? b = some o → b ≠ X.env.locals := fun b o e => Nat.ne_of_lt (Nat.lt_of_lt_of_le (Heap.lt_size e) I.ok.above)
  have neC : ∀ b o, X.s₀.heap.get? b = some o → b ∉ X.ex → b ∉ ch := fun b o e hx hb => by
    rcases (hch b hb).1 with z | z
    · exact hx z
    · exact absurd (Nat.lt_of_lt_of_le (Heap.lt_size e) z) (Nat.lt_irrefl _)
  have cellK : ∀ x c, X.env.cells.lookup x = some c → ∀ v, s.heap.IsCell c v → h'.IsCell c v := fun x c e v ⟨o, ho, hd⟩ => by
    have nch : c ∉ ch := fun z => (hch c z).2.2.1 x c e rfl
    by_cases hc : c ∈ X.fs
    · obtain ⟨sl, q⟩ := slot c o (I.cne x c e) hc nch ho (I.freeC x c e)
      exact ⟨_, q, hd⟩
    · exact ⟨o, keep c o (I.cne x c e) hc nch ho (I.freeC x c e), hd⟩
  refine ⟨I.ok, I.os, hg, ⟨fun b o e n hb hx => ?_, fun b o e n hb hx => ?_, fun b o e n hx => ?_, fun b o e hx => ?_, fun b xs e => tups b xs (I.base.tups b xs e), fun b o xs e => frzs b o xs (I.base.frzs b o xs e), fun b ps e => ?_⟩, ?_, fun x c e => ?_, ?_, fun x c e => ?_, fun p hp => ?_, hok, I.len⟩
  · exact keep b o (neL b o e) hb (neC b o e hx) (I.base.keep b o e n hb hx) (I.base.free b o e n hx)
  · obtain ⟨sl, e1⟩ := I.base.slot b o e n hb hx
    obtain ⟨sl', e2⟩ := slot b _ (neL b o e) hb (neC b o e hx) e1 (I.base.free b o e n hx)
    exact ⟨sl', e2⟩
  · obtain ⟨o', e1⟩ := I.base.there b o e hx
    exact free b o' (neC b o e hx) e1 (I.base.free b o e n hx)
  · obtain ⟨o', e1⟩ := I.base.there b o e hx
    exact there b o' (neC b o e hx) e1
  · obtain ⟨m1, e1⟩ := I.base.tbls b ps e
    obtain ⟨m2, e2⟩ := tbls b _ e1
    exact ⟨m1 ++ m2, by rw [e2, Array.append_assoc]⟩
  · obtain ⟨m, hn, hl⟩ := I.loc
    refine ⟨m, ns m hn, fun i x v e1 e2 e3 => ?_⟩
    obtain ⟨u, r, l⟩ := hl i x v e1 e2 e3
    refine ⟨u, r, ?_⟩
    rcases l with l | ⟨k, c, e, z⟩
    · exact .inl l
    · exact .inr ⟨k, c, e, cellK x c e _ z⟩
  · obtain ⟨v, z⟩ := I.cell x c e
    exact ⟨v, cellK x c e v z⟩
  · obtain ⟨m, ⟨o, _, _, ho, _⟩, _⟩ := I.loc
    exact free _ o (fun z => (hch _ z).2.1 rfl) ho I.free
  · obtain ⟨v, o, ho, hd⟩ := I.cell x c e
    exact free c o (fun z => (hch c z).2.2.1 x c e rfl) ho (I.freeC x c e)
  · obtain ⟨e, n, ne, nf, d⟩ := I.pin p hp
    have nch : p.1 ∉ ch := fun z => (hch p.1 z).2.2.2 p hp rfl
    exact ⟨keep p.1 p.2 ne nf nch e n, free p.1 p.2 nch e n, ne, nf, d⟩
/-- .. where the frame's own object is kept too -/
theorem Inv.un {t' : Nat} (I : Inv X pins σ H s) (u : Un X.fs [] H H' s.heap h') (hok : HOk X.prog X.w H' h') : Inv X pins σ H' { s with heap := h', toks := t' } := by
  obtain ⟨m, ⟨o, es, ep, ho, r⟩, _⟩ := id I.loc
  obtain ⟨sl, hL⟩ := u.any ho I.free (by simp)
  exact I.step (g' := s.gens) (d' := s.drawn) (ch := []) (fun _ z => nomatch z) (fun b o _ hb _ e n => u.keep b o e n hb (by simp)) (fun b o _ hb _ e n => u.slot b o e n hb (by simp)) (fun b o _ e n => u.free b o e n (by simp)) (fun b o _ e => u.there b o e (by simp)) u.tups u.frzs u.tbls (fun m' hm => by
    obtain ⟨o', es', ep', ho', r'⟩ := hm
    rw [ho] at ho'; cases ho'
    exact ⟨_, es', ep', hL, r'⟩) hok I.bare
/-- behind a call (or a comprehension's block): the slots of this frame may have changed too, the records at ch may have turned -/
theorem Inv.call {g' : Array GenState} {t' : Nat} {d' : Drawn} {ch : List Addr} (I : Inv X pins σ H s) (u : Un (frs X.stack) ch H H' s.heap h') (hok : HOk X.prog X.w H' h') (hg : AllBare g')
    (hch : ∀ b ∈ ch, (b ∈ X.ex ∨ X.s₀.heap.objs.size ≤ b) ∧ b ≠ X.env.locals ∧ (∀ x c, X.env.cells.lookup x = some c → c ≠ b) ∧ ∀ p ∈ X.pn ++ pins, p.1 ≠ b) :
    Inv X pins σ H' { s with heap := h', gens := g', drawn := d', toks := t' } := by
  obtain ⟨m, ⟨o, es, ep, ho, r⟩, _⟩ := id I.loc
  obtain ⟨sl, hL⟩ := u.any ho I.free fun z => (hch _ z).2.1 rfl
  exact I.step (ch := ch) hch (fun b o hL hb hc e n => u.keep b o e n (fun z => (List.mem_cons.mp (I.stkSub b z)).elim hL hb) hc) (fun b o _ _ hc e n => u.any e n hc) (fun b o hc e n => u.free b o e n hc) (fun b o hc e => u.there b o e hc) u.tups u.frzs u.tbls (fun m' hm => by
    obtain ⟨o', es', ep', ho', r'⟩ := hm
    rw [ho] at ho'; cases ho'
    exact ⟨_, es', ep', hL, r'⟩) hok hg
/-- an untracked record of ours (an iterator) has turned -/
theorem Inv.turned {t' : Nat} {it : Addr} (I : Inv X pins σ H s) (k : ∀ b o, b ≠ it → s.heap.get? b = some o → h'.get? b = some o) (hn : H it = none) (hL : it ≠ X.env.locals)
    (h1 : it ∈ X.ex ∨ X.s₀.heap.objs.size ≤ it) (h2 : ∀ x c, X.env.cells.lookup x = some c → c ≠ it) (h3 : ∀ p ∈ X.pn ++ pins, p.1 ≠ it) : Inv X pins σ H { s with heap := h', toks := t' } := by
  have nit : ∀ b u, H b = some u → b ≠ it := fun b u e z => by rw [z, hn] at e; cases e
  refine I.step (g' := s.gens) (d' := s.drawn) (ch := [it]) (fun b hb => ?_) (fun b o _ _ hc e _ => k b o (fun z => hc (by simp [z])) e) (fun b o _ _ hc e _ => ⟨o.slots, k b o (fun z => hc (by simp [z])) e⟩) (fun _ _ _ _ n => n)
    (fun b o hc e => ⟨o, k b o (fun z => hc (by simp [z])) e⟩) (fun _ _ e => e) (fun _ _ _ e => e) (fun b ps e => ⟨#[], by rw [e]; simp⟩) (fun m hm => ?_) (fun b u e => ?_) I.bare
  · have e : b = it := by simpa using hb
    subst e
    exact ⟨h1, hL, h2, h3⟩
  · obtain ⟨o, es, ep, ho, r⟩ := hm
    exact ⟨o, es, ep, k _ o (Ne.symm hL) ho, r⟩
  · refine (I.hok b u e).stay (fun c v hc q => k c v ?_ q) (fun _ q => q) fun _ _ q => q
    rcases hc with z | z
    · rw [z]; exact nit b u e
    · exact nit c _ z
theorem Inv.tok (I : Inv X pins σ H s) (t : Nat) : Inv X pins σ H { s with toks := t } := I.un (h' := s.heap) (t' := t) Un.refl I.hok
/-- all objects kept -/
theorem Inv.kept {t' : Nat} (I : Inv X pins σ H s) (k : ∀ b u, s.heap.get? b = some u → h'.get? b = some u) : Inv X pins σ H { s with heap := h', toks := t' } := I.un (Un.kept k) (I.hok.kept k)
/-- a new object laid and tracked -/
theorem Inv.laid {a : Addr} {o : HO} {t' : Nat} (I : Inv X pins σ H s) (k : ∀ b u, s.heap.get? b = some u → h'.get? b = some u) (hp : s.heap.objs.size ≤ a) (new : ObjOk X.prog X.w (upd H a o) h' a o) :
    Inv X pins σ (upd H a o) { s with heap := h', toks := t' } := I.un (Un.laid k hp (I.hok.fresh hp)) (I.hok.laid k hp new)
/-- an object written -/
theorem Inv.write {x e : Addr} {o : HO} {t' : Nat} (I : Inv X pins σ H s) (mu : Mut (H x)) (he : e = x ∨ H e = some (.own x)) (k : ∀ b u, b ≠ e → s.heap.get? b = some u → h'.get? b = some u) (heo : ∃ u, h'.get? e = some u)
    (new : ObjOk X.prog X.w (upd H x o) h' x o) : Inv X pins σ (upd H x o) { s with heap := h', toks := t' } := I.un (Un.write mu he k heo) (I.hok.write mu he k heo new)
/-- forgetting slots, pins -/
theorem Inv.weak {σ' : List (Option V)} (I : Inv X pins σ H s) (hl : σ'.length = σ.length) (w : ∀ (i : Nat) v, σ'[i]? = some (some v) → σ[i]? = some (some v)) : Inv X pins σ' H s :=
  ⟨I.ok, I.os, I.bare, I.base, let ⟨m, hn, hl'⟩ := I.loc; ⟨m, hn, fun i x v e1 e2 e3 => hl' i x v e1 (w i v e2) e3⟩, I.cell, I.free, I.freeC, I.pin, I.hok, hl.trans I.len⟩
theorem Inv.pins_of {pins' : List (Addr × Obj)} (I : Inv X pins σ H s) (h : ∀ p ∈ pins', s.heap.get? p.1 = some p.2 ∧ H p.1 = none ∧ p.1 ≠ X.env.locals ∧ p.1 ∉ X.fs ∧ ∀ v, p.2.data ≠ .cell v) : Inv X pins' σ H s :=
  ⟨I.ok, I.os, I.bare, I.base, I.loc, I.cell, I.free, I.freeC, fun p hp => (List.mem_append.mp hp).elim (fun z => I.pin p (List.mem_append_left _ z)) (h p), I.hok, I.len⟩

theorem nodup_ix {N : List Str} (hN : N.Nodup) {i j : Nat} {x : Str} (a : N[i]? = some x) (b : N[j]? = some x) : i = j := by
  obtain ⟨h1, e1⟩ := List.getElem?_eq_some_iff.mp a
  obtain ⟨h2, e2⟩ := List.getElem?_eq_some_iff.mp b
  exact (List.getElem_inj hN).mp (e1.trans e2.symm)

/-- a name is stored; what changed -/
theorem store_ok2 {M : Model} {A : Around} {E : Value → Shared → Prop} {i : Nat} {x : Str} {v : V} {u : Value} {Q : Unit → Shared → Prop} (I : Inv X pins σ H s) (hN : X.N.Nodup) (hi : X.N[i]? = some x) (hx : Loc X.env.scope x) (r : RelV v u)
    (h : ∀ s', Inv X pins (σ.set i (some v)) H s' → (∃ a, Heap.SameBut a s.heap s'.heap ∧ (a = X.env.locals ∨ X.env.cells.lookup x = some a)) → Q () s') (hf : X.fn x = true ∨ X.env.scope.names.lookup x = some .local := by first | exact .inl rfl | exact .inr rfl | assumption) : wpAny M A (storeName X.env x u) Q E s := by
  obtain ⟨m, hn, hl⟩ := id I.loc
  have hcls : (X.env.scope.kind == .class || (X.env.scope.kind == .module && X.env.locals != X.env.globals)) = false := by rw [I.ok.kind]; rfl
  have hiσ : i < σ.length := by rw [I.len]; exact (List.getElem?_eq_some_iff.mp hi).1
  have cne := I.cne
  have tracked : ∀ {a : Addr} {h' : Heap}, (∃ o, s.heap.get? a = some o ∧ H a = none) → Heap.SameBut a s.heap h' → HOk X.prog X.w H h' := fun {a h'} ha hs b ob e => by
    obtain ⟨_, _, hfree⟩ := ha
    refine (I.hok b ob e).stay (fun c w' hc q => (hs.2 c ?_).trans q) (fun _ q => q) fun _ _ q => q
    rintro rfl
    rcases hc with rfl | hc
    · rw [hfree] at e; cases e
    · rw [hfree] at hc; cases hc
  rcases hx with hk | hk
  · refine wpAny_storeName_local hk hn (fun h' hn' hs => ?_) hcls
    obtain ⟨oL, _, _, hoL, _⟩ := id hn
    refine h _ ⟨I.ok, I.os, I.bare, ⟨fun b o e n hb hx => ?_, fun b o e n hb hx => ?_, I.base.free, fun b o e hx => ?_, I.base.tups, I.base.frzs, I.base.tbls⟩, ⟨_, hn', fun j y v' e1 e2 e3 => ?_⟩, fun y c e => ?_, I.free, I.freeC, fun p hp => ?_, tracked ⟨oL, hoL, I.free⟩ hs, by simpa using I.len⟩ ⟨_, hs, .inl rfl⟩
    · exact (hs.2 b (Nat.ne_of_lt (Nat.lt_of_lt_of_le (Heap.lt_size e) I.ok.above))).trans (I.base.keep b o e n hb hx)
    · obtain ⟨sl, e1⟩ := I.base.slot b o e n hb hx
      exact ⟨sl, (hs.2 b (Nat.ne_of_lt (Nat.lt_of_lt_of_le (Heap.lt_size e) I.ok.above))).trans e1⟩
    · obtain ⟨o', e1⟩ := I.base.there b o e hx
      exact ⟨o', (hs.2 b (Nat.ne_of_lt (Nat.lt_of_lt_of_le (Heap.lt_size e) I.ok.above))).trans e1⟩
    · by_cases hj : j = i
      · subst hj
        rw [hi] at e1; cases e1
        rw [List.getElem?_set_self hiσ] at e2
        cases e2
        exact ⟨u, r, .inl ⟨hk, by simp⟩⟩
      · rw [List.getElem?_set_ne (Ne.symm hj)] at e2
        obtain ⟨u', r', q⟩ := hl j y v' e1 e2 e3
        refine ⟨u', r', ?_⟩
        rcases q with ⟨k, e⟩ | ⟨k, c, e, z⟩
        · refine .inl ⟨k, ?_⟩
          have : y ≠ x := fun e => hj (nodup_ix hN e1 (e ▸ hi))
          simp [this, e]
        · exact .inr ⟨k, c, e, z.sameBut hs (cne y c e)⟩
    · obtain ⟨w', z⟩ := I.cell y c e
      exact ⟨w', z.sameBut hs (cne y c e)⟩
    · obtain ⟨e, n, ne, nf, d⟩ := I.pin p hp
      exact ⟨(hs.2 p.1 ne).trans e, n, ne, nf, d⟩
  · have hfn : X.fn x = true := by
      rcases hf with z | z
      · exact z
      · rw [z] at hk; cases hk
    obtain ⟨c, hc⟩ := I.ok.has x (.inl hk)
    obtain ⟨w', z⟩ := I.cell x c hc
    refine wpAny_storeName_cell I.ok.kind hk hc z (fun h' hc' hs => ?_)
    obtain ⟨oc, hoc, hocd⟩ := id z
    refine h { s with heap := h' } ⟨I.ok, I.os, I.bare, ⟨fun b o e n hb hx => ?_, fun b o e n hb hx => ?_, I.base.free, fun b o e hx => ?_, I.base.tups, I.base.frzs, I.base.tbls⟩, ⟨m, hn.sameBut hs (Ne.symm (cne x c hc)), fun j y v' e1 e2 e3 => ?_⟩, fun y c' e => ?_, I.free, I.freeC, fun p hp => ?_, tracked ⟨oc, hoc, I.freeC x c hc⟩ hs, by simpa using I.len⟩ ⟨c, hs, .inr hc⟩
    · exact (hs.2 b (Nat.ne_of_lt (Nat.lt_of_lt_of_le (Heap.lt_size e) (I.ok.cab x c hfn hc)))).trans (I.base.keep b o e n hb hx)
    · obtain ⟨sl, e1⟩ := I.base.slot b o e n hb hx
      exact ⟨sl, (hs.2 b (Nat.ne_of_lt (Nat.lt_of_lt_of_le (Heap.lt_size e) (I.ok.cab x c hfn hc)))).trans e1⟩
    · obtain ⟨o', e1⟩ := I.base.there b o e hx
      exact ⟨o', (hs.2 b (Nat.ne_of_lt (Nat.lt_of_lt_of_le (Heap.lt_size e) (I.ok.cab x c hfn hc)))).trans e1⟩
    · by_cases hj : j = i
      · subst hj
        rw [hi] at e1; cases e1
        rw [List.getElem?_set_self hiσ] at e2
        cases e2
        exact ⟨u, r, .inr ⟨.inl hk, c, hc, hc'⟩⟩
      · rw [List.getElem?_set_ne (Ne.symm hj)] at e2
        obtain ⟨u', r', q⟩ := hl j y v' e1 e2 e3
        refine ⟨u', r', ?_⟩
        rcases q with q | ⟨k, c', e, z'⟩
        · exact .inl q
        · refine .inr ⟨k, c', e, z'.sameBut hs ?_⟩
          rintro rfl
          exact hj (nodup_ix hN e1 (I.ok.inj _ _ _ e hc ▸ hi))
    · by_cases hcc : c' = c
      · subst hcc; exact ⟨_, hc'⟩
      · obtain ⟨w2, z2⟩ := I.cell y c' e
        exact ⟨w2, z2.sameBut hs hcc⟩
    · obtain ⟨e, n, ne, nf, d⟩ := I.pin p hp
      refine ⟨(hs.2 p.1 ?_).trans e, n, ne, nf, d⟩
      intro q
      rw [q, hoc] at e
      have q' : oc = p.2 := Option.some.inj e
      exact d w' (by rw [← q']; exact hocd)
theorem store_ok {M : Model} {A : Around} {E : Value → Shared → Prop} {i : Nat} {x : Str} {v : V} {u : Value} {Q : Unit → Shared → Prop} (I : Inv X pins σ H s) (hN : X.N.Nodup) (hi : X.N[i]? = some x) (hx : Loc X.env.scope x) (r : RelV v u)
    (h : ∀ s', Inv X pins (σ.set i (some v)) H s' → Q () s') (hf : X.fn x = true ∨ X.env.scope.names.lookup x = some .local := by first | exact .inl rfl | exact .inr rfl | assumption) : wpAny M A (storeName X.env x u) Q E s :=
  store_ok2 I hN hi hx r (fun s' I' _ => h s' I') hf
/-- behind a call or a block, the state as it is -/
theorem Inv.call' {s' : Shared} {ch : List Addr} (I : Inv X pins σ H s) (ho : s'.os = s.os) (u : Un (frs X.stack) ch H H' s.heap s'.heap) (hok : HOk X.prog X.w H' s'.heap) (hg : AllBare s'.gens)
    (hch : ∀ b ∈ ch, (b ∈ X.ex ∨ X.s₀.heap.objs.size ≤ b) ∧ b ≠ X.env.locals ∧ (∀ x c, X.env.cells.lookup x = some c → c ≠ b) ∧ ∀ p ∈ X.pn ++ pins, p.1 ≠ b) : Inv X pins σ H' s' := by
  obtain ⟨h', g', d', t', o'⟩ := s'
  have e : o' = s.os := ho
  subst e
  exact I.call (g' := g') (t' := t') (d' := d') u hok hg hch
end

/-- an exception: its class, its own dict's address (where it has one), the abstract heap behind it -/
abbrev XK := Value → Option Addr → Hp → Prop
abbrev St := List (Option V)
abbrev VK := V → Hp → Prop
/-- an expression's reading; a test's; an argument list's -/
abbrev TE := St → Hp → VK → Prop
abbrev TT := St → Hp → (Bool → Hp → Prop) → Prop
abbrev TA := St → Hp → (List V → Hp → Prop) → Prop
/-- what is wanted behind a statement -/
structure Ends where
  nx : St → Hp → Prop
  rt : VK
  bk : St → Hp → Prop := fun _ _ => False
  ct : St → Hp → Prop := fun _ _ => False
abbrev TS := Ends → St → Hp → Prop

def EP (X : Cx) (pins : List (Addr × Obj)) (σ : St) (Q : VK) (u : Value) (s' : Shared) : Prop := ∃ v H', Inv X pins σ H' s' ∧ RelV v u ∧ Q v H'
def TP (X : Cx) (pins : List (Addr × Obj)) (σ : St) (Q : Bool → Hp → Prop) (b : Bool) (s' : Shared) : Prop := ∃ H', Inv X pins σ H' s' ∧ Q b H'
def AP (X : Cx) (pins : List (Addr × Obj)) (σ : St) (Q : List V → Hp → Prop) (us : List Value) (s' : Shared) : Prop := ∃ vs H', Inv X pins σ H' s' ∧ Vals vs us ∧ Q vs H'
def SP (X : Cx) (pins : List (Addr × Obj)) (D : Ends) (f : Flow) (s' : Shared) : Prop :=
  match f with
  | .next => ∃ σ' H', Inv X pins σ' H' s' ∧ D.nx σ' H'
  | .brk => ∃ σ' H', Inv X pins σ' H' s' ∧ D.bk σ' H'
  | .cont => ∃ σ' H', Inv X pins σ' H' s' ∧ D.ct σ' H'
  | .ret u => ∃ v σ' H', Inv X pins σ' H' s' ∧ RelV v u ∧ D.rt v H'

def PE (X : Cx) (e : Expr) (t : TE) : Prop :=
  ∀ (pins : List (Addr × Obj)) (s : Shared) (σ : St) (H : Hp) (Q : VK), Inv X pins σ H s → t σ H Q → wpAny (model X.prog X.w) X.A (eval e X.env) (EP X pins σ Q) X.xe s
def PT (X : Cx) (e : Expr) (t : TT) : Prop :=
  ∀ (pins : List (Addr × Obj)) (s : Shared) (σ : St) (H : Hp) (Q : Bool → Hp → Prop), Inv X pins σ H s → t σ H Q → wpAny (model X.prog X.w) X.A (isTrue e X.env (eval e X.env)) (TP X pins σ Q) X.xe s
/-- a test whatever its 'whole' is (and, or) -/
def PW (X : Cx) (e : Expr) (t : TT) : Prop :=
  ∀ (whole : Sem Value) (pins : List (Addr × Obj)) (s : Shared) (σ : St) (H : Hp) (Q : Bool → Hp → Prop), Inv X pins σ H s → t σ H Q → wpAny (model X.prog X.w) X.A (isTrue e X.env whole) (TP X pins σ Q) X.xe s
theorem PW.pt {X : Cx} {e : Expr} {t : TT} (h : PW X e t) : PT X e t := h _
/-- an argument list (no star), from the left -/
def PA (X : Cx) (es : List Expr) (t : TA) : Prop :=
  ∀ (pos : Pos) (pins : List (Addr × Obj)) (s : Shared) (σ : St) (H : Hp) (Q : List V → Hp → Prop), Inv X pins σ H s → t σ H Q → wpAny (model X.prog X.w) X.A (spliced (backTo pos (starEach es X.env))) (AP X pins σ Q) X.xe s
def PS (X : Cx) (st : Stmt) (t : TS) : Prop :=
  ∀ (pins : List (Addr × Obj)) (s : Shared) (σ : St) (H : Hp) (D : Ends), Inv X pins σ H s → t D σ H → wpAny (model X.prog X.w) X.A (exec st X.env) (SP X pins D) X.xe s
def PSs (X : Cx) (st : List Stmt) (t : TS) : Prop :=
  ∀ (pins : List (Addr × Obj)) (s : Shared) (σ : St) (H : Hp) (D : Ends), Inv X pins σ H s → t D σ H → wpAny (model X.prog X.w) X.A (execs st X.env) (SP X pins D) X.xe s
/-- weaken the end -/
theorem thn {α : Type} {t : Sem α} {Q Q' : α → Shared → Prop} {M : Model} {A : Around} {E : Value → Shared → Prop} {s : Shared} (h : wpAny M A t Q E s) (hQ : ∀ a s, Q a s → Q' a s) : wpAny M A t Q' E s := wpAny_mono h hQ fun _ _ x => x
end L2

namespace L2
open PySem PySem.Spec PyProof.Rows
section
variable {X : Cx}

def tVar (i : Nat) : TE := fun σ H Q => ∃ v, σ[i]? = some (some v) ∧ Q v H
def tC (v : V) : TE := fun _ H Q => Q v H
theorem pe_var {i : Nat} {x : Str} {pos : Pos} (hN : X.N[i]? = some x) (hv : Vis X.env.scope x) (hd : (x == ("__debug__" : Str)) = false := by decide) (hcd : (x == ("__classdict__" : Str)) = false := by decide) : PE X (.Name x pos) (tVar i) := by
  intro pins s σ H Q I h
  obtain ⟨v, e, h⟩ := h
  obtain ⟨m, hn, hl⟩ := I.loc
  obtain ⟨u, r, l⟩ := hl i x v hN e hv
  have fin : EP X pins σ Q u s := ⟨v, H, I, r, h⟩
  rcases l with ⟨hk, hm⟩ | ⟨hk, c, hc, hcell⟩
  · exact wpAny_Name (wpAny_loadName_local I.ok.kind hk hn hm fin) hd
  · rcases hk with hk | hk
    · exact wpAny_Name (wpAny_loadName_cell I.ok.kind hk hc hcell fin) hd
    · exact wpAny_Name (wpAny_loadName_free I.ok.kind hk hc hcell fin hcd) hd
theorem pe_int {i j pos} : PE X (.Constant (.int i) j pos) (tC (.int i)) := fun _ _ _ H _ I h => wpAny_Constant_int ⟨.int i, H, I.tok _, ⟨_, rfl⟩, h⟩
theorem pe_bl {b j pos} : PE X (.Constant (.bool b) j pos) (tC (.bl b)) := fun _ _ _ H _ I h => Constant_bool ⟨.bl b, H, I, rfl, h⟩
theorem pe_str {x j pos} : PE X (.Constant (.str x) j pos) (tC (.str x)) := fun _ _ _ H _ I h => Calls.Constant_str ⟨.str x, H, I.tok _, ⟨_, rfl⟩, h⟩

/-- a global name of the def -/
def Gl (X : Cx) (x : Str) : Prop := X.env.kindOf x = some .globalImplicit
theorem ld_glob {E : Value → Shared → Prop} {pins : List (Addr × Obj)} {s : Shared} {σ : St} {H : Hp} {x : Str} {u : Value} {pos : Pos} {Q : Value → Shared → Prop} (I : Inv X pins σ H s) (hg : Gl X x) (hm : X.mg x = some u) (h : Q u s)
    (hd : (x == ("__debug__" : Str)) = false := by decide) : wpAny (model X.prog X.w) X.A (eval (.Name x pos) X.env) Q E s :=
  Calls.Name_function_global I.ok.kind hg (Calls.loadGlobal_global (by rw [I.ok.glob]; exact I.mod.glob.keeps I.bk) hm h) hd
theorem ld_blt {E : Value → Shared → Prop} {pins : List (Addr × Obj)} {s : Shared} {σ : St} {H : Hp} {x : Str} {u : Value} {pos : Pos} {Q : Value → Shared → Prop} (I : Inv X pins σ H s) (hg : Gl X x) (hm : X.mg x = none) (hv : bootBuiltins x = some u) (h : Q u s)
    (hn : x ≠ "__name__" := by decide) (hd : (x == ("__debug__" : Str)) = false := by decide) : wpAny (model X.prog X.w) X.A (eval (.Name x pos) X.env) Q E s := by
  obtain ⟨mb, h1, h2⟩ := I.mod.blt
  exact Calls.Name_function_global I.ok.kind hg (Calls.loadGlobal_builtin (by rw [I.ok.glob]; exact I.mod.glob.keeps I.bk) hm (by rw [I.ok.blt]; exact h1.keeps I.bk) ((h2 x hn).trans hv) h) hd
theorem pe_bltn {x : Str} {v : V} {u : Value} {pos : Pos} (hg : Gl X x) (hm : X.mg x = none) (hv : bootBuiltins x = some u) (r : RelV v u) (hn : x ≠ "__name__" := by decide) (hd : (x == ("__debug__" : Str)) = false := by decide) : PE X (.Name x pos) (tC v) :=
  fun _ _ _ H _ I h => ld_blt I hg hm hv ⟨v, H, I, r, h⟩ hn hd

variable {a b : Expr} {ta tb : TE} {pos : Pos}
/-- a comparison as a value, as a test -/
def tB (t : TE) : TT := fun σ H Q => t σ H fun x H1 => ∃ c, x = .bl c ∧ Q c H1
/-- an expression whose value is a bool, as a test -/
theorem pt_val {e : Expr} {t : TE} (h : PE X e t) (he : ∀ whole, isTrue e X.env whole = (do let v ← whole; standAt e.pos; holding [v] (truthy v)) := by intro _; rfl) : PT X e (tB t) := by
  intro pins s σ H Q I hw
  refine isTrue_plain (thn (h pins s σ H _ I hw) fun v s1 ⟨x, H1, I1, r1, q1⟩ => ?_) (he _)
  obtain ⟨d, rfl, q⟩ := q1
  cases r1
  exact wpAny_truthy_bool ⟨H1, I1, q⟩

variable {tA tB' : TT} {rest : List Expr}
def tAnd (t u : TT) : TT := fun σ H Q => t σ H fun c H1 => if c = true then u σ H1 Q else Q false H1
def tOr (t u : TT) : TT := fun σ H Q => t σ H fun c H1 => if c = true then Q true H1 else u σ H1 Q
def tNot (t : TT) : TT := fun σ H Q => t σ H fun c H1 => Q (!c) H1
theorem pw_and1 (ha : PT X a tA) : PW X (.BoolOp .And [a] pos) tA := by
  intro wh pins s σ H Q I h
  refine isTrue_and (thn (ha pins s σ H Q I h) fun c s1 e => ?_)
  cases c with
  | true => exact isTrue_and_nil e
  | false => exact e
theorem pw_or1 (ha : PT X a tA) : PW X (.BoolOp .Or [a] pos) tA := by
  intro wh pins s σ H Q I h
  refine isTrue_or (thn (ha pins s σ H Q I h) fun c s1 e => ?_)
  cases c with
  | false => exact isTrue_or_nil e
  | true => exact e
theorem pw_and (ha : PT X a tA) (hb : PW X (.BoolOp .And (b :: rest) pos) tB') : PW X (.BoolOp .And (a :: b :: rest) pos) (tAnd tA tB') := by
  intro wh pins s σ H Q I h
  refine isTrue_and (thn (ha pins s σ H _ I h) fun c s1 ⟨H1, I1, q1⟩ => ?_)
  cases c with
  | true => exact hb wh pins s1 σ H1 Q I1 q1
  | false => exact ⟨H1, I1, q1⟩
theorem pw_or (ha : PT X a tA) (hb : PW X (.BoolOp .Or (b :: rest) pos) tB') : PW X (.BoolOp .Or (a :: b :: rest) pos) (tOr tA tB') := by
  intro wh pins s σ H Q I h
  refine isTrue_or (thn (ha pins s σ H _ I h) fun c s1 ⟨H1, I1, q1⟩ => ?_)
  cases c with
  | true => exact ⟨H1, I1, q1⟩
  | false => exact hb wh pins s1 σ H1 Q I1 q1
theorem pt_not (ha : PT X a tA) : PT X (.UnaryOp .Not a pos) (tNot tA) := by
  intro pins s σ H Q I h
  exact isTrue_not (ha pins s σ H (fun c H1 => Q (!c) H1) I h)
/-- .. as values (bools) -/
def tAndV (ta tb : TE) : TE := fun σ H Q => ta σ H fun x H1 => ∃ c, x = .bl c ∧ if c = true then tb σ H1 Q else Q (.bl false) H1
def tOrV (ta tb : TE) : TE := fun σ H Q => ta σ H fun x H1 => ∃ c, x = .bl c ∧ if c = true then Q (.bl true) H1 else tb σ H1 Q
def tNotV (ta : TE) : TE := fun σ H Q => ta σ H fun x H1 => ∃ c, x = .bl c ∧ Q (.bl (!c)) H1
theorem pe_one {op} {t : TE} (h : PE X a t) : PE X (.BoolOp op [a] pos) t := fun pins s σ H Q I hw => BoolOp_one (h pins s σ H Q I hw)
theorem pe_and (ha : PE X a ta) (hb : PE X (.BoolOp .And (b :: rest) pos) tb) : PE X (.BoolOp .And (a :: b :: rest) pos) (tAndV ta tb) := by
  intro pins s σ H Q I h
  refine BoolOp_and (thn (ha pins s σ H _ I h) fun v s1 ⟨x, H1, I1, r1, q1⟩ => ?_)
  obtain ⟨c, rfl, q1⟩ := q1
  cases r1
  refine wpAny_truthy_bool ?_
  cases c with
  | true => exact hb pins s1 σ H1 Q I1 q1
  | false => exact ⟨.bl false, H1, I1, rfl, q1⟩
theorem pe_or (ha : PE X a ta) (hb : PE X (.BoolOp .Or (b :: rest) pos) tb) : PE X (.BoolOp .Or (a :: b :: rest) pos) (tOrV ta tb) := by
  intro pins s σ H Q I h
  refine BoolOp_or (thn (ha pins s σ H _ I h) fun v s1 ⟨x, H1, I1, r1, q1⟩ => ?_)
  obtain ⟨c, rfl, q1⟩ := q1
  cases r1
  refine wpAny_truthy_bool ?_
  cases c with
  | false => exact hb pins s1 σ H1 Q I1 q1
  | true => exact ⟨.bl true, H1, I1, rfl, q1⟩
theorem pe_not (ha : PE X a ta) : PE X (.UnaryOp .Not a pos) (tNotV ta) := by
  intro pins s σ H Q I h
  refine UnaryOp_ (thn (ha pins s σ H _ I h) fun v s1 ⟨x, H1, I1, r1, q1⟩ => ?_)
  obtain ⟨c, rfl, q1⟩ := q1
  cases r1
  exact not_of (wpAny_truthy_bool ⟨.bl (!c), H1, I1, rfl, q1⟩)
end
end L2

namespace L2
open PySem PySem.Spec PyProof.Rows

def SqL (K : PySem.W.Frag) (H : Hp) (a : Addr) (xs : List V) : Prop :=
  Rd H a (.lst xs) ∨
    ∃ (o : Obj) (its : Array Value) (n : Nat), K.lookup a = some o ∧ o.cls = .type "list" ∧ o.dict = none ∧ o.data = .seq its n ∧ its.size ≤ sizeLine ∧ Vals xs its.toList
def SqT (K : PySem.W.Frag) (H : Hp) (a : Addr) (xs : List V) : Prop :=
  Rd H a (.tup xs) ∨
    ∃ (o : Obj) (its : Array Value) (n : Nat), K.lookup a = some o ∧ o.cls = .type "tuple" ∧ o.data = .seq its n ∧ its.size ≤ sizeLine ∧ Vals xs its.toList
def absV : Value → Option V
  | .none => some .non
  | .bool b => some (.bl b)
  | .int i _ => some (.int i)
  | .str x _ => some (.str x)
  | .bytes b _ => some (.byt b)
  | .float b _ => some (.flt b)
  | .ref a => some (.ref a)
  | .type n => some (.ty n)
  | _ => none
theorem RelV.abs {x : V} {u : Value} (r : RelV x u) : absV u = some x := by
  cases x with
  | non => cases r; rfl
  | bl _ => cases r; rfl
  | int _ => obtain ⟨t, rfl⟩ := r; rfl
  | str _ => obtain ⟨t, rfl⟩ := r; rfl
  | byt _ => obtain ⟨t, rfl⟩ := r; rfl
  | flt _ => obtain ⟨t, rfl⟩ := r; rfl
  | ref _ => cases r; rfl
  | ty _ => cases r; rfl
theorem RelV.inj {x y : V} {u : Value} (r : RelV x u) (q : RelV y u) : x = y := Option.some.inj (r.abs.symm.trans q.abs)
theorem Vals.inj : ∀ {xs ys : List V} {us : List Value}, Vals xs us → Vals ys us → xs = ys
  | _, _, _, .nil, .nil => rfl
  | _, _, _, .cons r t, .cons r' t' => by rw [r.inj r', Vals.inj t t']
section
variable {X : Cx} {pins : List (Addr × Obj)} {σ : St} {H : Hp} {s : Shared} {a : Addr} {xs ys : List V}
theorem SqL.of {K : PySem.W.Frag} (h : H a = some (.lst xs)) : SqL K H a xs := .inl (.inl h)
theorem SqT.of {K : PySem.W.Frag} (h : H a = some (.tup xs)) : SqT K H a xs := .inl (.inl h)
theorem Inv.list (I : Inv X pins σ H s) (h : SqL X.K H a xs) : ∃ its : List Value, Vals xs its ∧ PlainL s.heap a its.toArray ∧ xs.length ≤ sizeLine := by
  rcases h with h | ⟨o, its, n, hk, hc, hd, hs, hz, r⟩
  · obtain ⟨z, its, n, r, e⟩ := h.ok I.hok
    exact ⟨its, r, ⟨_, n, e, rfl, rfl, rfl⟩, z⟩
  · refine ⟨its.toList, r, ⟨o, n, I.kIn a o hk, hc, hd, by simpa using hs⟩, ?_⟩
    have e := r.length
    simp only [Array.length_toList] at e
    omega
theorem Inv.tuple (I : Inv X pins σ H s) (h : SqT X.K H a xs) : ∃ its : List Value, Vals xs its ∧ IsTup s.heap a its.toArray ∧ xs.length ≤ sizeLine := by
  rcases h with h | ⟨o, its, n, hk, hc, hs, hz, r⟩
  · obtain ⟨z, its, r, p⟩ := h.ok I.hok
    exact ⟨its, r, p, z⟩
  · refine ⟨its.toList, r, ⟨o, I.kIn a o hk, hc, n, by simpa using hs⟩, ?_⟩
    have e := r.length
    simp only [Array.length_toList] at e
    omega
theorem Inv.list_inj (I : Inv X pins σ H s) (h : SqL X.K H a xs) (h' : SqL X.K H a ys) : xs = ys := by
  obtain ⟨its, r, ⟨o, n, e, _, _, d⟩, _⟩ := I.list h
  obtain ⟨its', r', ⟨o', n', e', _, _, d'⟩, _⟩ := I.list h'
  rw [e] at e'; cases e'
  rw [d] at d'
  injection d' with d1 _
  have : its = its' := by simpa using congrArg Array.toList d1
  subst this
  exact r.inj r'
theorem Inv.tuple_inj (I : Inv X pins σ H s) (h : SqT X.K H a xs) (h' : SqT X.K H a ys) : xs = ys := by
  obtain ⟨its, r, ⟨o, e, _, n, d⟩, _⟩ := I.tuple h
  obtain ⟨its', r', ⟨o', e', _, n', d'⟩, _⟩ := I.tuple h'
  rw [e] at e'; cases e'
  rw [d] at d'
  injection d' with d1 _
  have : its = its' := by simpa using congrArg Array.toList d1
  subst this
  exact r.inj r'
end

abbrev Cx.wish (X : Cx) (E : Value → Shared → Prop) : Cx := { X with xe := E }
/-- no exception leaves -/
abbrev Cx.nox (X : Cx) : Cx := X.wish fun _ _ => False
theorem Cx.Ok.wish {X : Cx} (ok : X.Ok) (E : Value → Shared → Prop) : (X.wish E).Ok :=
  ⟨ok.mod, ok.kind, ok.glob, ok.blt, ok.above, ok.inj, ok.has, ok.cab, ok.hd, ok.frames, ok.stk, ok.exf, ok.bs, ok.bsz, ok.noex, ok.exfs, ok.funs, ok.frf⟩
theorem Cx.Ok.unwish {X : Cx} {E : Value → Shared → Prop} (ok : (X.wish E).Ok) : X.Ok :=
  ⟨ok.mod, ok.kind, ok.glob, ok.blt, ok.above, ok.inj, ok.has, ok.cab, ok.hd, ok.frames, ok.stk, ok.exf, ok.bs, ok.bsz, ok.noex, ok.exfs, ok.funs, ok.frf⟩
section
variable {X : Cx} {pins : List (Addr × Obj)} {σ : St} {H : Hp} {s : Shared} {E : Value → Shared → Prop}
theorem Inv.wish (I : Inv X pins σ H s) (E : Value → Shared → Prop) : Inv (X.wish E) pins σ H s := ⟨I.ok.wish E, I.os, I.bare, I.base, I.loc, I.cell, I.free, I.freeC, I.pin, I.hok, I.len⟩
theorem Inv.unwish (I : Inv (X.wish E) pins σ H s) : Inv X pins σ H s := ⟨I.ok.unwish, I.os, I.bare, I.base, I.loc, I.cell, I.free, I.freeC, I.pin, I.hok, I.len⟩
theorem SP.unwish {D : Ends} {f : Flow} {s' : Shared} (h : SP (X.wish E) pins D f s') : SP X pins D f s' := by
  cases f with
  | next => obtain ⟨σ', H', I, q⟩ := h; exact ⟨σ', H', I.unwish, q⟩
  | brk => obtain ⟨σ', H', I, q⟩ := h; exact ⟨σ', H', I.unwish, q⟩
  | cont => obtain ⟨σ', H', I, q⟩ := h; exact ⟨σ', H', I.unwish, q⟩
  | ret u => obtain ⟨v, σ', H', I, r, q⟩ := h; exact ⟨v, σ', H', I.unwish, r, q⟩
theorem PSs.nox {st : List Stmt} {t : TS} (h : PSs X.nox st t) : PSs X st t := fun pins s σ H D I hw =>
  wpAny_mono (h pins s σ H D (I.wish _) hw) (fun _ _ q => q.unwish) fun _ _ z => False.elim z
end

section
variable {X : Cx} {st : Stmt} {rest : List Stmt} {t u : TS} {e : Expr} {te : TE} {pos : Pos}
def tNext : TS := fun D σ H => D.nx σ H
def tSeq (t u : TS) : TS := fun D σ H => t { D with nx := u D } σ H
theorem pss_nil : PSs X [] tNext := fun _ _ σ H _ I h => wpAny_execs_nil ⟨σ, H, I, h⟩
theorem pss_cons (h1 : PS X st t) (h2 : PSs X rest u) : PSs X (st :: rest) (tSeq t u) := by
  intro pins s σ H D I h
  refine wpAny_execs_cons (thn (h1 pins s σ H { D with nx := u D } I h) fun f s1 q => ?_)
  cases f with
  | next =>
    obtain ⟨σ', H', I', q⟩ := q
    exact h2 pins s1 σ' H' D I' q
  | ret v => exact q
  | brk => exact q
  | cont => exact q
theorem pss_one (h1 : PS X st t) : PSs X [st] t := by
  intro pins s σ H D I h
  refine wpAny_execs_cons (thn (h1 pins s σ H D I h) fun f s1 q => ?_)
  cases f with
  | next => exact wpAny_execs_nil q
  | ret v => exact q
  | brk => exact q
  | cont => exact q
/-- in a def's body nothing is shown -/
theorem Inv.quiet {pins : List (Addr × Obj)} {σ : St} {H : Hp} {s : Shared} (I : Inv X pins σ H s) : interactive X.env = false := by simp [interactive, I.ok.kind]
/-- an expression whose value is dropped -/
def tDrop (te : TE) : TS := fun D σ H => te σ H fun _ H1 => D.nx σ H1
theorem ps_expr (he : PE X e te) (hs : swapsWith e none pos.line X.env = pure false := by rfl) : PS X (.Expr e pos) (tDrop te) := by
  intro pins s σ H D I h
  exact wpAny_Expr_any (thn (he pins s σ H _ I h) fun v s1 ⟨x, H1, I1, r1, q1⟩ => ⟨σ, H1, I1, q1⟩) I.quiet hs
def tRet (te : TE) : TS := fun D σ H => te σ H D.rt
theorem ps_ret (he : PE X e te) : PS X (.Return (some e) pos) (tRet te) := by
  intro pins s σ H D I h
  exact wpAny_Return_some (thn (he pins s σ H _ I h) fun v s1 ⟨x, H1, I1, r1, q1⟩ => ⟨x, σ, H1, I1, r1, q1⟩)
def tIfS (c : TT) (t u : TS) : TS := fun D σ H => c σ H fun b H1 => if b = true then t D σ H1 else u D σ H1
theorem ps_if {c : Expr} {a b : List Stmt} {tc : TT} (hc : PT X c tc) (ha : PSs X a t) (hb : PSs X b u) : PS X (.If c a b pos) (tIfS tc t u) := by
  intro pins s σ H D I h
  refine wpAny_If (thn (hc pins s σ H _ I h) fun d s1 ⟨H1, I1, q1⟩ => ?_)
  cases d with
  | true => exact ha pins s1 σ H1 D I1 q1
  | false => exact hb pins s1 σ H1 D I1 q1
end

abbrev TG := V → St → Hp → (St → Hp → Prop) → Prop
abbrev TGs := List V → St → Hp → (St → Hp → Prop) → Prop
def PG (X : Cx) (target : Expr) (t : TG) : Prop :=
  ∀ (pins : List (Addr × Obj)) (s : Shared) (σ : St) (H : Hp) (v : V) (u : Value) (Q : St → Hp → Prop), Inv X pins σ H s → RelV v u → t v σ H Q →
    wpAny (model X.prog X.w) X.A (assign target X.env u) (fun _ s' => ∃ σ' H', Inv X pins σ' H' s' ∧ Q σ' H') X.xe s
/-- several targets, one after another -/
def PGs (X : Cx) (ts : List Expr) (t : TGs) : Prop :=
  ∀ (pins : List (Addr × Obj)) (s : Shared) (σ : St) (H : Hp) (vs : List V) (us : List Value) (Q : St → Hp → Prop), Inv X pins σ H s → Vals vs us → t vs σ H Q →
    wpAny (model X.prog X.w) X.A (assignInOrder ((assignEach ts X.env).map (·.2)) us) (fun _ s' => ∃ σ' H', Inv X pins σ' H' s' ∧ Q σ' H') X.xe s
section
variable {X : Cx} {pos : Pos}
def gName (i : Nat) : TG := fun v σ H Q => Q (σ.set i (some v)) H
theorem pg_name {i : Nat} {x : Str} (hN : X.N.Nodup) (hi : X.N[i]? = some x) (hx : Loc X.env.scope x) (hf : X.fn x = true ∨ X.env.scope.names.lookup x = some .local := by first | exact .inl rfl | exact .inr rfl | assumption) : PG X (.Name x pos) (gName i) := by
  intro pins s σ H v u Q I r h
  exact wpAny_assign_Name (store_ok I hN hi hx r (fun s' I' => ⟨_, H, I', h⟩) hf)
def gNil : TGs := fun vs σ H Q => vs = [] ∧ Q σ H
def gCons (t : TG) (u : TGs) : TGs := fun vs σ H Q => ∃ v r, vs = v :: r ∧ t v σ H fun σ' H' => u r σ' H' Q
theorem pgs_nil : PGs X [] gNil := by
  intro pins s σ H vs us Q I r h
  obtain ⟨e, h⟩ := h
  subst e
  cases r
  exact assignInOrder_nil ⟨σ, H, I, h⟩
theorem pgs_cons {e : Expr} {es : List Expr} {t : TG} {u : TGs} (h1 : PG X e t) (h2 : PGs X es u)
    (hs : (assignEach (e :: es) X.env).map (·.2) = assign e X.env :: (assignEach es X.env).map (·.2) := by rfl) : PGs X (e :: es) (gCons t u) := by
  intro pins s σ H vs us Q I r h
  obtain ⟨v, vr, e1, h⟩ := h
  subst e1
  cases r with
  | cons r rr =>
    rw [hs]
    refine assignInOrder_cons (thn (h1 pins s σ H _ _ _ I r h) fun _ s1 ⟨σ1, H1, I1, q1⟩ => ?_)
    exact h2 pins s1 σ1 H1 _ _ Q I1 rr q1
/-- (a, b, ..) = a tuple of that length -/
def gTup (K : PySem.W.Frag) (n : Nat) (t : TGs) : TG := fun v σ H Q => ∃ a xs, v = .ref a ∧ SqT K H a xs ∧ xs.length = n ∧ t xs σ H Q
theorem pg_tup {es : List Expr} {k : Nat} {t : TGs} {n : Nat} (hc : X.calm = true) (h : PGs X es t)
    (hn : (assignEach es X.env).length = n := by rfl) (hst : (assignEach es X.env).findIdx? (·.1) = none := by rfl) : PG X (.Tuple es k pos) (gTup X.K n t) := by
  intro pins s σ H v u Q I r hw
  obtain ⟨a, xs, e1, hq, hl, hw⟩ := hw
  subst e1
  cases r
  obtain ⟨its, rv, ht, hz⟩ := I.tuple hq
  refine assign_Tuple_tuple (I.ok.hd hc) ht (by simp [hn, ← hl, rv.length]) hst fun h' hx => ?_
  have I1 : Inv X pins σ H { s with heap := h' } := I.kept (t' := s.toks) fun b o e => hx b o (Nat.ne_of_lt (Heap.lt_size e)) e
  exact h pins _ σ H xs _ Q I1 (by simpa using rv) hw
/-- target = value -/
def tAsg (te : TE) (g : TG) : TS := fun D σ H => te σ H fun x H1 => g x σ H1 D.nx
/-- name = value -/
theorem ps_set {i : Nat} {x : Str} {e : Expr} {te : TE} {pos' : Pos} (hN : X.N.Nodup) (hi : X.N[i]? = some x) (hx : Loc X.env.scope x) (he : PE X e te) (hs : swapsWith e (some (.Name x pos')) pos.line X.env = pure false := by rfl) (hf : X.fn x = true ∨ X.env.scope.names.lookup x = some .local := by first | exact .inl rfl | exact .inr rfl | assumption) :
    PS X (.Assign [.Name x pos'] e pos) (tAsg te (gName i)) := by
  intro pins s σ H D I h
  refine wpAny_Assign_Name (thn (he pins s σ H _ I h) fun v s1 ⟨y, H1, I1, r1, q1⟩ => ?_) hs
  exact store_ok I1 hN hi hx r1 (fun s2 I2 => ⟨_, H1, I2, q1⟩) hf
end

/-- at turn i: it yields x (the heap may grow), or it stops -/
structure It where
  go : Nat → Hp → Prop
  yld : Nat → Hp → V → Hp → Prop
  stop : Nat → Hp → Prop
/-- the iterator's own objects may turn: they are not the frame's, not pinned, younger than the entry (or a comprehension's own) -/
def FpOk (X : Cx) (pins : List (Addr × Obj)) (H : Hp) (b : Addr) : Prop :=
  H b = none ∧ b ≠ X.env.locals ∧ b ∉ X.fs ∧ (b ∈ X.ex ∨ X.s₀.heap.objs.size ≤ b) ∧ (∀ x c, X.env.cells.lookup x = some c → c ≠ b) ∧ ∀ p ∈ X.pn ++ pins, p.1 ≠ b
theorem Inv.fpOk {X : Cx} {pins : List (Addr × Obj)} {σ : St} {H H' : Hp} {s : Shared} {b : Addr} (I : Inv X pins σ H s) (hb : s.heap.objs.size ≤ b) (hn : H' b = none) : FpOk X pins H' b := by
  refine ⟨hn, Nat.ne_of_gt (Nat.lt_of_lt_of_le I.lt hb), I.nofs hb, .inr (Nat.le_trans I.sz hb), fun x c e z => ?_, fun p hp z => ?_⟩
  · obtain ⟨v, q⟩ := I.cell x c e
    exact absurd (Nat.lt_of_lt_of_le q.lt (by rw [z]; exact hb)) (Nat.lt_irrefl _)
  · exact absurd (Nat.lt_of_lt_of_le (Heap.lt_size (I.pin p hp).1) (by rw [z]; exact hb)) (Nat.lt_irrefl _)
structure Turn (P : Program) (w : World) (K : PySem.W.Frag) (tg : Expr) (J : It) (fp : List Addr) (it : Addr) (tn : Nat → Heap → Prop) : Prop where
  mem : it ∈ fp
  obj : ∀ i h, tn i h → ∀ b ∈ fp, ∃ o, h.get? b = some o ∧ ∀ v, o.data ≠ .cell v
  keep : ∀ i h h', tn i h → (∀ b ∈ fp, ∀ o, h.get? b = some o → h'.get? b = some o) → tn i h'
  item : ∀ (X : Cx), X.prog = P → X.w = w → X.K = K → X.calm = true → ∀ (i : Nat) (pins : List (Addr × Obj)) (s : Shared) (σ : St) (H : Hp) (E : Value → Shared → Prop), Inv X pins σ H s → (∀ b ∈ fp, FpOk X pins H b) → tn i s.heap → J.go i H →
    wpAny (model P w) X.A (pyNext (.ref it)) (fun r s1 => ∃ u, r = some u ∧
      wpAny (model P w) X.A (letOwnedTupleGo tg (.ref it) u) (fun _ s2 => ∃ x H', Inv X pins σ H' s2 ∧ RelV x u ∧ J.yld i H x H' ∧ tn (i + 1) s2.heap ∧ ∀ b ∈ fp, H' b = none) E s1) E s
  done : ∀ (X : Cx), X.prog = P → X.w = w → X.K = K → X.calm = true → ∀ (i : Nat) (pins : List (Addr × Obj)) (s : Shared) (σ : St) (H : Hp) (E : Value → Shared → Prop), Inv X pins σ H s → (∀ b ∈ fp, FpOk X pins H b) → tn i s.heap → J.stop i H →
    wpAny (model P w) X.A (pyNext (.ref it)) (fun r s1 => r = none ∧ Inv X pins σ H s1) E s
  self : ∀ (A : Around) (i : Nat) (s : Shared) (Q : Value → Shared → Prop) (E : Value → Shared → Prop), tn i s.heap → Q (.ref it) s → wpAny (model P w) A (pyIter (.ref it)) Q E s
abbrev TI := St → Hp → (It → Hp → Prop) → Prop
/-- an iterator has come -/
def PIE (X : Cx) (pins : List (Addr × Obj)) (σ : St) (tg : Expr) (R : It → Hp → Prop) (itv : Value) (s2 : Shared) : Prop :=
  ∃ (it : Addr) (fp : List Addr) (tn : Nat → Heap → Prop) (J : It) (H' : Hp), itv = .ref it ∧ Inv X pins σ H' s2 ∧ Turn X.prog X.w X.K tg J fp it tn ∧ tn 0 s2.heap ∧ (∀ b ∈ fp, FpOk X pins H' b) ∧ R J H'
def PI (X : Cx) (tg iter : Expr) (wi : TI) : Prop :=
  ∀ (pins : List (Addr × Obj)) (s : Shared) (σ : St) (H : Hp) (R : It → Hp → Prop), Inv X pins σ H s → wi σ H R →
    wpAny (model X.prog X.w) X.A (eval iter X.env) (fun v s1 => wpAny (model X.prog X.w) X.A (pyIter v) (PIE X pins σ tg R) X.xe s1) X.xe s

/-- the step ahead of the store is nothing for an iterator that keeps no tuple -/
theorem go_of {M : Model} {A : Around} {E : Value → Shared → Prop} {s : Shared} {tg : Expr} {it : Addr} {u : Value} {o : Obj} {n : String} {vs : Array Value} {Q : Unit → Shared → Prop} (ho : s.heap.get? it = some o) (hc : o.cls = .type n) (hd : o.data = .fields vs)
    (hn : ["enumerate", "zip", "dict_itemiterator", "dict_reverseitemiterator", "odict_iterator", "itertools.zip_longest", "itertools.pairwise"].contains n = false) (hQ : Q () s) : wpAny M A (letOwnedTupleGo tg (.ref it) u) Q E s := by
  unfold letOwnedTupleGo
  cases tg <;> first
    | exact wpAny_pure hQ
    | (cases u <;> first
        | exact wpAny_pure hQ
        | (refine wpAny_bind (wpAny_load ho ?_)
           rw [hc, hd]
           show wpAny M A (if (["enumerate", "zip", "dict_itemiterator", "dict_reverseitemiterator", "odict_iterator", "itertools.zip_longest", "itertools.pairwise"].contains n && vs[0]? == some (rawInt _)) = true then _ else _) Q E s
           rw [if_neg (by intro h; rw [hn, Bool.false_and] at h; cases h)]
           exact wpAny_pure hQ))

/-- the list at a, as it stands at each turn (a loop may append to it) -/
def Itl (K : PySem.W.Frag) (a : Addr) : It :=
  ⟨fun i H => ∃ xs x, SqL K H a xs ∧ xs[i]? = some x, fun i H x H' => H' = H ∧ ∀ xs, SqL K H a xs → xs[i]? = some x, fun i H => ∃ xs, SqL K H a xs ∧ xs.length ≤ i⟩
def Itt (K : PySem.W.Frag) (a : Addr) : It :=
  ⟨fun i H => ∃ xs x, SqT K H a xs ∧ xs[i]? = some x, fun i H x H' => H' = H ∧ ∀ xs, SqT K H a xs → xs[i]? = some x, fun i H => ∃ xs, SqT K H a xs ∧ xs.length ≤ i⟩
/-- lo, lo + 1, .. (n of them) -/
def Itr (lo : Int) (n : Nat) : It := ⟨fun i _ => i < n, fun i H x H' => H' = H ∧ x = .int (lo + i), fun i _ => n ≤ i⟩
theorem turn_list {P : Program} {w : World} {K : PySem.W.Frag} {tg : Expr} (a it : Addr) : Turn P w K tg (Itl K a) [it] it (fun i h => h.IsListIter it a i) where
  mem := by simp
  obj := fun i h st b hb => by
    have e : b = it := by simpa using hb
    subst e
    obtain ⟨o, e, c, d⟩ := st
    exact ⟨o, e, fun v z => by rw [d] at z; cases z⟩
  keep := fun i h h' st k => st.at fun o e => k it (by simp) o e
  item := by
    intro X hP hw hK hc i pins s σ H E I hf st hg
    subst hP hw hK
    obtain ⟨xs, x, hq, hx⟩ := hg
    obtain ⟨its, rv, p, hz⟩ := I.list hq
    obtain ⟨u, hu, ru⟩ := rv.get hx
    obtain ⟨f0, f1, f2, f3, f4, f5⟩ := hf it (by simp)
    refine wpAny_pyNext_list_item st p.isList (x := u) (by simpa using hu) fun h' st' sb => ?_
    have I1 : Inv X pins σ H { s with heap := h' } := I.turned (t' := s.toks) (fun b o hb e => (sb.2 b hb).trans e) f0 f1 f3 f4 f5
    obtain ⟨o, e, c, d⟩ := id st'
    exact ⟨u, rfl, go_of (s := { s with heap := h' }) e c d (by decide) ⟨x, H, I1, ru, ⟨rfl, fun ys hy => by rw [I.list_inj hy hq]; exact hx⟩, st', fun b hb => (hf b hb).1⟩⟩
  done := by
    intro X hP hw hK hc i pins s σ H E I hf st hg
    subst hP hw hK
    obtain ⟨xs, hq, hx⟩ := hg
    obtain ⟨its, rv, p, hz⟩ := I.list hq
    obtain ⟨f0, f1, f2, f3, f4, f5⟩ := hf it (by simp)
    have hl := rv.length
    exact wpAny_pyNext_list_end (I.ok.hd hc) st p.isList (by simp; omega) fun h' eb => ⟨rfl, I.turned (t' := s.toks) (fun b o hb e => eb b o hb e) f0 f1 f3 f4 f5⟩
  self := fun _ _ _ _ _ st h => wpAny_pyIter_listiter st h
theorem turn_tuple {P : Program} {w : World} {K : PySem.W.Frag} {tg : Expr} (a it : Addr) : Turn P w K tg (Itt K a) [it] it (fun i h => h.IsTupleIter it a i) where
  mem := by simp
  obj := fun i h st b hb => by
    have e : b = it := by simpa using hb
    subst e
    obtain ⟨o, e, c, d⟩ := st
    exact ⟨o, e, fun v z => by rw [d] at z; cases z⟩
  keep := fun i h h' st k => st.at fun o e => k it (by simp) o e
  item := by
    intro X hP hw hK hc i pins s σ H E I hf st hg
    subst hP hw hK
    obtain ⟨xs, x, hq, hx⟩ := hg
    obtain ⟨its, rv, p, hz⟩ := I.tuple hq
    obtain ⟨u, hu, ru⟩ := rv.get hx
    obtain ⟨f0, f1, f2, f3, f4, f5⟩ := hf it (by simp)
    refine wpAny_pyNext_tuple_item st (show s.heap.IsTuple a its.toArray from p) (x := u) (by simpa using hu) fun h' st' sb => ?_
    have I1 : Inv X pins σ H { s with heap := h' } := I.turned (t' := s.toks) (fun b o hb e => (sb.2 b hb).trans e) f0 f1 f3 f4 f5
    obtain ⟨o, e, c, d⟩ := id st'
    exact ⟨u, rfl, go_of (s := { s with heap := h' }) e c d (by decide) ⟨x, H, I1, ru, ⟨rfl, fun ys hy => by rw [I.tuple_inj hy hq]; exact hx⟩, st', fun b hb => (hf b hb).1⟩⟩
  done := by
    intro X hP hw hK hc i pins s σ H E I hf st hg
    subst hP hw hK
    obtain ⟨xs, hq, hx⟩ := hg
    obtain ⟨its, rv, p, hz⟩ := I.tuple hq
    obtain ⟨f0, f1, f2, f3, f4, f5⟩ := hf it (by simp)
    have hl := rv.length
    exact wpAny_pyNext_tuple_end (I.ok.hd hc) st (show s.heap.IsTuple a its.toArray from p) (by simp; omega) fun h' eb => ⟨rfl, I.turned (t' := s.toks) (fun b o hb e => eb b o hb e) f0 f1 f3 f4 f5⟩
  self := fun _ _ _ _ _ st h => wpAny_pyIter_tupleiter st h
theorem turn_range {P : Program} {w : World} {K : PySem.W.Frag} {tg : Expr} (it : Addr) (lo : Int) (n : Nat) : Turn P w K tg (Itr lo n) [it] it (fun i h => IsRangeIter h it (lo + (i : Nat) * 1) ((n : Int) - (i : Nat)) 1) where
  mem := by simp
  obj := fun i h st b hb => by
    have e : b = it := by simpa using hb
    subst e
    exact ⟨_, st, fun v z => by
      have z' : Data.fields _ = Data.cell v := z
      cases z'⟩
  keep := fun i h h' st k => k it (by simp) _ st
  item := by
    intro X hP hw hK hc i pins s σ H E I hf st hg
    subst hP hw hK
    obtain ⟨f0, f1, f2, f3, f4, f5⟩ := hf it (by simp)
    have W := Walks.range (prog := X.prog) (w := X.w) (I.ok.hd hc) it lo 1 n
    refine W.item i s _ _ hg st fun v h' tk hv st' kk => ?_
    obtain ⟨t, rfl⟩ := hv
    have I1 : Inv X pins σ H { s with heap := h', toks := tk } := I.turned (fun b o hb e => kk b o (by simpa using hb) e) f0 f1 f3 f4 f5
    refine ⟨_, rfl, go_of (s := { s with heap := h', toks := tk }) (n := "range_iterator") st' rfl rfl (by decide) ⟨.int (lo + i), H, I1, ⟨t, ?_⟩, ⟨rfl, rfl⟩, st', fun b hb => (hf b hb).1⟩⟩
    rw [Int.mul_one]
  done := by
    intro X hP hw hK hc i pins s σ H E I hf st hg
    subst hP hw hK
    obtain ⟨f0, f1, f2, f3, f4, f5⟩ := hf it (by simp)
    exact wpAny_pyNext_range_end (I.ok.hd hc) st (by have : n ≤ i := hg; omega) fun h' eb => ⟨rfl, I.turned (t' := s.toks) (fun b o hb e => eb b o hb e) f0 f1 f3 f4 f5⟩
  self := fun _ _ _ _ _ st h => wpAny_pyIter_rangeiter st h
end L2

namespace L2
open PySem PySem.Spec PyProof.Rows
section
variable {X : Cx} {tg : Expr}
def iList (K : PySem.W.Frag) (tl : TE) : TI := fun σ H R => tl σ H fun x H1 => ∃ a, x = .ref a ∧ (∃ xs, SqL K H1 a xs) ∧ R (Itl K a) H1
def iTup (K : PySem.W.Frag) (tl : TE) : TI := fun σ H R => tl σ H fun x H1 => ∃ a, x = .ref a ∧ (∃ xs, SqT K H1 a xs) ∧ R (Itt K a) H1
theorem pi_list {l : Expr} {tl : TE} (hl : PE X l tl) : PI X tg l (iList X.K tl) := by
  intro pins s σ H R I h
  refine thn (hl pins s σ H _ I h) fun v s1 ⟨x, H1, I1, r1, q1⟩ => ?_
  obtain ⟨a, e, ⟨xs, hq⟩, q⟩ := q1
  subst e
  cases r1
  obtain ⟨its, rv, p, hz⟩ := I1.list hq
  refine wpAny_pyIter_list p.isList ?_
  refine ⟨s1.heap.objs.size, [s1.heap.objs.size], _, _, H1, rfl, I1.kept (t' := s1.toks) fun b o e => Heap.get?_push_of_some _ e, turn_list a _, ⟨_, Heap.get?_push_size _ rfl, rfl, rfl⟩, fun b hb => ?_, q⟩
  have e : b = s1.heap.objs.size := by simpa using hb
  subst e
  exact I1.fpOk (Nat.le_refl _) (I1.hok.fresh (Nat.le_refl _))
theorem pi_tup {l : Expr} {tl : TE} (hl : PE X l tl) : PI X tg l (iTup X.K tl) := by
  intro pins s σ H R I h
  refine thn (hl pins s σ H _ I h) fun v s1 ⟨x, H1, I1, r1, q1⟩ => ?_
  obtain ⟨a, e, ⟨xs, hq⟩, q⟩ := q1
  subst e
  cases r1
  obtain ⟨its, rv, p, hz⟩ := I1.tuple hq
  refine wpAny_pyIter_tuple (show s1.heap.IsTuple a its.toArray from p) ?_
  refine ⟨s1.heap.objs.size, [s1.heap.objs.size], _, _, H1, rfl, I1.kept (t' := s1.toks) fun b o e => Heap.get?_push_of_some _ e, turn_tuple a _, ⟨_, Heap.get?_push_size _ rfl, rfl, rfl⟩, fun b hb => ?_, q⟩
  have e : b = s1.heap.objs.size := by simpa using hb
  subst e
  exact I1.fpOk (Nat.le_refl _) (I1.hok.fresh (Nat.le_refl _))
/-- a range object just made, walked -/
theorem range_it {pins : List (Addr × Obj)} {σ : St} {H : Hp} {s : Shared} {R : It → Hp → Prop} {E : Value → Shared → Prop} {lo hi : Int} {t u v : Tok} {tk : Nat} (I : Inv X pins σ H s) (h1 : -(2 ^ 62) ≤ lo) (h2 : lo < 2 ^ 62) (h3 : -(2 ^ 62) ≤ hi) (h4 : hi < 2 ^ 62)
    (q : R (Itr lo (hi - lo).toNat) H) : wpAny (model X.prog X.w) X.A (pyIter (.ref s.heap.objs.size)) (PIE X pins σ tg R) E { s with heap := s.heap.push { cls := .type "range", data := .fields #[.int lo t, .int hi u, .int 1 v] }, toks := tk } := by
  refine wpAny_pyIter_range (IsRange.new ..) (small_one h1 h2 h3 h4) ?_
  have I1 : Inv X pins σ H { s with heap := s.heap.push { cls := .type "range", data := .fields #[.int lo t, .int hi u, .int 1 v] }, toks := tk } := I.kept fun b o e => Heap.get?_push_of_some _ e
  refine ⟨(s.heap.push { cls := .type "range", data := .fields #[.int lo t, .int hi u, .int 1 v] }).objs.size, [(s.heap.push { cls := .type "range", data := .fields #[.int lo t, .int hi u, .int 1 v] }).objs.size], _, _, H, rfl,
    I1.kept (t' := tk) fun b o e => Heap.get?_push_of_some _ e, turn_range _ lo (hi - lo).toNat, ?_, fun b hb => ?_, q⟩
  · have e1 : lo + ((0 : Nat) : Int) * 1 = lo := by simp
    have e2 : (((hi - lo).toNat : Nat) : Int) - ((0 : Nat) : Int) = Builtin.Range.rangeSize lo hi 1 := by rw [rangeSize_one]; split <;> omega
    show IsRangeIter _ _ (lo + ((0 : Nat) : Int) * 1) ((((hi - lo).toNat : Nat) : Int) - ((0 : Nat) : Int)) 1
    rw [e1, e2]
    exact Heap.get?_push_size _ rfl
  · have e : b = (s.heap.push { cls := .type "range", data := .fields #[.int lo t, .int hi u, .int 1 v] }).objs.size := by simpa using hb
    subst e
    exact I1.fpOk (Nat.le_refl _) (I1.hok.fresh (Nat.le_refl _))
def iRng1 (ta : TA) : TI := fun σ H R => ta σ H fun vs H1 => ∃ j : Int, vs = [.int j] ∧ -(2 ^ 62) ≤ j ∧ j < 2 ^ 62 ∧ R (Itr 0 j.toNat) H1
def iRng2 (ta : TA) : TI := fun σ H R => ta σ H fun vs H1 => ∃ i j : Int, vs = [.int i, .int j] ∧ (-(2 ^ 62) ≤ i ∧ i < 2 ^ 62 ∧ -(2 ^ 62) ≤ j ∧ j < 2 ^ 62) ∧ R (Itr i (j - i).toNat) H1
theorem pi_range1 {a : Expr} {ta : TA} {p pos : Pos} (hg : Gl X "range") (hm : X.mg "range" = none) (ha : PA X [a] ta) (hs : starEach [a] X.env = [(false, eval a X.env)] := by rfl) : PI X tg (.Call (.Name "range" p) [a] [] pos) (iRng1 ta) := by
  intro pins s σ H R I h
  refine Call_ (ld_blt I hg hm boot_range (PyProof.Rows.callWith_type1 (thn (ha pos pins s σ H _ I h) fun us s1 ⟨vs, H1, I1, r1, q1⟩ => ?_) hs rfl))
  obtain ⟨j, e, q1, q2, q⟩ := q1
  subst e
  cases r1 with
  | cons r rr =>
    cases rr
    obtain ⟨t, rfl⟩ := r
    exact call_range_1 (range_it I1 (by omega) (by omega) q1 q2 (by simpa using q))
theorem pi_range2 {a b : Expr} {ta : TA} {p pos : Pos} (hg : Gl X "range") (hm : X.mg "range" = none) (ha : PA X [a, b] ta) (hs : starEach [a, b] X.env = [(false, eval a X.env), (false, eval b X.env)] := by rfl) (hs2 : starEach [b] X.env = [(false, eval b X.env)] := by rfl) :
    PI X tg (.Call (.Name "range" p) [a, b] [] pos) (iRng2 ta) := by
  intro pins s σ H R I h
  refine Call_ (ld_blt I hg hm boot_range (PyProof.Rows.callWith_type1 (thn (ha pos pins s σ H _ I h) fun us s1 ⟨vs, H1, I1, r1, q1⟩ => ?_) (by rw [hs, hs2]) (by rw [hs2]; rfl)))
  obtain ⟨i, j, e, ⟨q1, q2, q3, q4⟩, q⟩ := q1
  subst e
  cases r1 with
  | cons r rr =>
    cases rr with
    | cons r' rr =>
      cases rr
      obtain ⟨t, rfl⟩ := r
      obtain ⟨t', rfl⟩ := r'
      exact call_range_2 (range_it I1 q1 q2 q3 q4 q)

/-- W: the invariant by the turn and a measure; N: what the body is to reach -/
def tFor (wi : TI) (g : TG) (tb : TS) : TS := fun D σ H => wi σ H fun J H1 => ∃ W : Nat → Nat → St → Hp → Prop, (∃ m, W 0 m σ H1) ∧ ∀ i m σ H, W i m σ H →
  (J.stop i H ∧ D.nx σ H) ∨ (J.go i H ∧ ∃ N : St → Hp → Prop, (∀ σ' H', N σ' H' → ∃ m', m' < m ∧ W (i + 1) m' σ' H') ∧ ∀ x H', J.yld i H x H' → g x σ H' fun σ2 H2 => tb { D with nx := N, ct := N, bk := D.nx } σ2 H2)
/-- the records at fp as they stand -/
def pinsAt (fp : List Addr) (h : Heap) : List (Addr × Obj) := fp.filterMap fun b => (h.get? b).map fun o => (b, o)
theorem mem_pinsAt {fp : List Addr} {h : Heap} {b : Addr} {o : Obj} (hb : b ∈ fp) (e : h.get? b = some o) : (b, o) ∈ pinsAt fp h := List.mem_filterMap.mpr ⟨b, hb, by rw [e]; rfl⟩
theorem of_pinsAt {fp : List Addr} {h : Heap} {p : Addr × Obj} (hp : p ∈ pinsAt fp h) : p.1 ∈ fp ∧ h.get? p.1 = some p.2 := by
  obtain ⟨b, hb, e⟩ := List.mem_filterMap.mp hp
  cases q : h.get? b with
  | none => rw [q] at e; cases e
  | some o =>
    rw [q] at e
    have e' : (b, o) = p := Option.some.inj e
    subst e'
    exact ⟨hb, q⟩
theorem Inv.pinned {pins : List (Addr × Obj)} {σ : St} {H : Hp} {s : Shared} {fp : List Addr} (I : Inv X pins σ H s) (hf : ∀ b ∈ fp, FpOk X pins H b) (ho : ∀ b ∈ fp, ∃ o, s.heap.get? b = some o ∧ ∀ v, o.data ≠ .cell v) : Inv X (pins ++ pinsAt fp s.heap) σ H s :=
  I.pins_of fun p hp => (List.mem_append.mp hp).elim (fun z => I.pin p (List.mem_append_right _ z)) fun z => by
    obtain ⟨hb, e⟩ := of_pinsAt z
    obtain ⟨f0, f1, f2, _⟩ := hf p.1 hb
    obtain ⟨o, e', d⟩ := ho p.1 hb
    rw [e] at e'; cases e'
    exact ⟨e, f0, f1, f2, d⟩
theorem Inv.unpinned {pins pl : List (Addr × Obj)} {σ : St} {H : Hp} {s : Shared} (I : Inv X (pins ++ pl) σ H s) : Inv X pins σ H s := I.pins_of fun p hp => I.pin p (List.mem_append_right _ (List.mem_append_left _ hp))
theorem ps_for {iter : Expr} {body : List Stmt} {wi : TI} {g : TG} {tb : TS} {pos : Pos} (hp : PassesOwn (model X.prog X.w) X.A X.env X.xe) (hc : X.calm = true) (hi : PI X tg iter wi) (hg : PG X tg g) (hb : PSs X body tb)
    (hs : ∀ x, foldedSetIterable iter X.env x = pure x := by intro _; rfl) : PS X (.For tg iter body [] pos) (tFor wi g tb) := by
  intro pins s σ H D I h
  refine wpAny_For (thn (hi pins s σ H _ I h) fun v s1 h1 => thn h1 fun itv s2 h2 => ?_) hs
  obtain ⟨it, fp, tn, J, H2, e, I2, T, st2, f2, W, ⟨m0, w0⟩, turn⟩ := h2
  subst e
  -- what stays true of the iterator's objects through the loop
  have stat : ∀ {H' : Hp}, (∀ b ∈ fp, H' b = none) → ∀ b ∈ fp, FpOk X pins H' b := fun hn b hb => ⟨hn b hb, (f2 b hb).2⟩
  refine codeAny_forLoop_any (fun n s' => ∃ i σ' H', Inv X pins σ' H' s' ∧ tn i s'.heap ∧ (∀ b ∈ fp, H' b = none) ∧ W i n σ' H') ?_ m0 ⟨0, σ, H2, I2, st2, fun b hb => (f2 b hb).1, w0⟩
  rintro n s3 ⟨i, σ3, H3, I3, st3, fr3, w3⟩
  rcases turn i n σ3 H3 w3 with ⟨stop, qn⟩ | ⟨go, N, hN, step⟩
  · refine wpAny_passesOwn hp (thn (T.done X rfl rfl rfl hc i pins s3 σ3 H3 X.xe I3 (stat fr3) st3 stop) fun r s4 ⟨hr, I4⟩ => ?_)
    subst hr
    exact wpAny_execs_nil ⟨σ3, H3, I4, qn⟩
  · refine wpAny_passesOwn hp (thn (T.item X rfl rfl rfl hc i pins s3 σ3 H3 X.xe I3 (stat fr3) st3 go) fun r s4 ⟨u, hr, h4⟩ => ?_)
    subst hr
    refine wpAny_passesOwn hp (thn h4 fun _ s5 ⟨x, H5, I5, r5, y5, st5, fr5⟩ => ?_)
    have I5' := I5.pinned (stat fr5) (T.obj _ _ st5)
    refine wpAny_passesOwn hp (thn (hg _ s5 σ3 H5 x u _ I5' r5 (step x H5 y5)) fun _ s6 ⟨σ6, H6, I6, q6⟩ => ?_)
    refine wpAny_passesOwn hp (thn (hb _ s6 σ6 H6 _ I6 q6) fun f s7 q7 => ?_)
    have again : ∀ {σ7 : St} {H7 : Hp}, Inv X (pins ++ pinsAt fp s5.heap) σ7 H7 s7 → N σ7 H7 → ∃ m, m < n ∧ ∃ i σ' H', Inv X pins σ' H' s7 ∧ tn i s7.heap ∧ (∀ b ∈ fp, H' b = none) ∧ W i m σ' H' := fun {σ7 H7} I7 n7 => by
      obtain ⟨m', hm, w7⟩ := hN σ7 H7 n7
      refine ⟨m', hm, i + 1, σ7, H7, I7.unpinned, T.keep _ _ _ st5 fun b hb o e => (I7.pin (b, o) (List.mem_append_right _ (List.mem_append_right _ (mem_pinsAt hb e)))).1, fun b hb => ?_, w7⟩
      obtain ⟨o, e, d⟩ := T.obj _ _ st5 b hb
      exact (I7.pin (b, o) (List.mem_append_right _ (List.mem_append_right _ (mem_pinsAt hb e)))).2.1
    cases f with
    | next => obtain ⟨σ7, H7, I7, n7⟩ := q7; exact again I7 n7
    | cont => obtain ⟨σ7, H7, I7, n7⟩ := q7; exact again I7 n7
    | brk => obtain ⟨σ7, H7, I7, q7⟩ := q7; exact ⟨σ7, H7, I7.unpinned, q7⟩
    | ret v => obtain ⟨x7, σ7, H7, I7, r7, q7⟩ := q7; exact ⟨x7, σ7, H7, I7.unpinned, r7, q7⟩
end

/-- over a list that the body leaves as it is -/
theorem for_list {K : PySem.W.Frag} {a : Addr} {xs : List V} {g : TG} {tb : TS} {D : Ends} {σ : St} {H : Hp} (Pv : Nat → St → Hp → Prop) (h0 : Pv 0 σ H) (hl : ∀ i σ H, i ≤ xs.length → Pv i σ H → SqL K H a xs)
    (hs : ∀ i x σ H, xs[i]? = some x → Pv i σ H → g x σ H fun σ2 H2 => tb { D with nx := Pv (i + 1), ct := Pv (i + 1), bk := D.nx } σ2 H2) (hd : ∀ σ H, Pv xs.length σ H → D.nx σ H) :
    ∃ W : Nat → Nat → St → Hp → Prop, (∃ m, W 0 m σ H) ∧ ∀ i m σ H, W i m σ H →
      ((Itl K a).stop i H ∧ D.nx σ H) ∨ ((Itl K a).go i H ∧ ∃ N : St → Hp → Prop, (∀ σ' H', N σ' H' → ∃ m', m' < m ∧ W (i + 1) m' σ' H') ∧ ∀ x H', (Itl K a).yld i H x H' → g x σ H' fun σ2 H2 => tb { D with nx := N, ct := N, bk := D.nx } σ2 H2) := by
  refine ⟨fun i m σ H => m = xs.length - i ∧ i ≤ xs.length ∧ Pv i σ H, ⟨xs.length, by simp, Nat.zero_le _, h0⟩, ?_⟩
  rintro i m σ H ⟨rfl, hi, p⟩
  have q := hl i σ H hi p
  by_cases hlt : i < xs.length
  · refine .inr ⟨⟨xs, xs[i], q, by simp [hlt]⟩, Pv (i + 1), fun σ' H' p' => ⟨xs.length - (i + 1), by omega, rfl, hlt, p'⟩, fun x H' y => ?_⟩
    obtain ⟨e, y⟩ := y
    subst e
    exact hs i x σ _ (y xs q) p
  · have e : i = xs.length := by omega
    subst e
    exact .inl ⟨⟨xs, q, Nat.le_refl _⟩, hd σ H p⟩
theorem for_range {lo : Int} {n : Nat} {g : TG} {tb : TS} {D : Ends} {σ : St} {H : Hp} (Pv : Nat → St → Hp → Prop) (h0 : Pv 0 σ H)
    (hs : ∀ i σ H, i < n → Pv i σ H → g (.int (lo + i)) σ H fun σ2 H2 => tb { D with nx := Pv (i + 1), ct := Pv (i + 1), bk := D.nx } σ2 H2) (hd : ∀ σ H, Pv n σ H → D.nx σ H) :
    ∃ W : Nat → Nat → St → Hp → Prop, (∃ m, W 0 m σ H) ∧ ∀ i m σ H, W i m σ H →
      ((Itr lo n).stop i H ∧ D.nx σ H) ∨ ((Itr lo n).go i H ∧ ∃ N : St → Hp → Prop, (∀ σ' H', N σ' H' → ∃ m', m' < m ∧ W (i + 1) m' σ' H') ∧ ∀ x H', (Itr lo n).yld i H x H' → g x σ H' fun σ2 H2 => tb { D with nx := N, ct := N, bk := D.nx } σ2 H2) := by
  refine ⟨fun i m σ H => m = n - i ∧ i ≤ n ∧ Pv i σ H, ⟨n, by simp, Nat.zero_le _, h0⟩, ?_⟩
  rintro i m σ H ⟨rfl, hi, p⟩
  by_cases hlt : i < n
  · refine .inr ⟨hlt, Pv (i + 1), fun σ' H' p' => ⟨n - (i + 1), by omega, rfl, hlt, p'⟩, fun x H' y => ?_⟩
    obtain ⟨e, y⟩ := y
    subst e y
    exact hs i σ _ hlt p
  · have e : i = n := by omega
    subst e
    exact .inl ⟨Nat.le_refl _, hd σ H p⟩
end L2

namespace L2
open PySem PySem.Spec PyProof.Rows

abbrev R2 := V → V → Hp → VK → Prop
/-- a two-place operation on values: f is binaryOp op, inplaceOp op or compareOp op -/
def OpR (X : Cx) (f : Value → Value → Sem Value) (r : R2) : Prop :=
  ∀ (pins : List (Addr × Obj)) (s : Shared) (σ : St) (H : Hp) (x y : V) (v u : Value) (Q : VK), Inv X pins σ H s → RelV x v → RelV y u → r x y H Q →
    wpAny (model X.prog X.w) X.A (f v u) (EP X pins σ Q) X.xe s
/-- a call of a value that is known (a builtin, a type) with values -/
def CallR (X : Cx) (f : Value) (r : List V → Hp → VK → Prop) : Prop :=
  ∀ (pins : List (Addr × Obj)) (s : Shared) (σ : St) (H : Hp) (xs : List V) (us : List Value) (Q : VK), Inv X pins σ H s → Vals xs us → r xs H Q →
    wpAny (model X.prog X.w) X.A (call f us) (EP X pins σ Q) X.xe s
def tOp (r : R2) (ta tb : TE) : TE := fun σ H Q => ta σ H fun x H1 => tb σ H1 fun y H2 => r x y H2 Q
/-- ints in, under C, and a value out -/
def rI (C : Int → Int → Prop) (g : Int → Int → V) : R2 := fun x y H Q => ∃ i j, x = .int i ∧ y = .int j ∧ C i j ∧ Q (g i j) H
def rI0 (g : Int → Int → V) : R2 := fun x y H Q => ∃ i j, x = .int i ∧ y = .int j ∧ Q (g i j) H
section
variable {X : Cx} {a b c : Expr} {ta tb tc : TE} {pos : Pos}

theorem binT (ha : PE X a ta) (hb : PE X b tb) {pins : List (Addr × Obj)} {s : Shared} {σ : St} {H : Hp} {R : V → V → Hp → Prop} (I : Inv X pins σ H s)
    (h : ta σ H fun x H1 => tb σ H1 fun y H2 => R x y H2) {Q : Value → Shared → Prop} {f : Value → Value → Sem Value}
    (hf : ∀ v u s2 x y H2, Inv X pins σ H2 s2 → RelV x v → RelV y u → R x y H2 → wpAny (model X.prog X.w) X.A (f v u) Q X.xe s2) :
    wpAny (model X.prog X.w) X.A (eval a X.env) (fun v s₁ => wpAny (model X.prog X.w) X.A (eval b X.env) (fun u s₂ => wpAny (model X.prog X.w) X.A (f v u) Q X.xe s₂) X.xe s₁) X.xe s := by
  refine thn (ha pins s σ H _ I h) fun v s1 ⟨x, H1, I1, r1, q1⟩ => ?_
  refine thn (hb pins s1 σ H1 _ I1 q1) fun u s2 ⟨y, H2, I2, r2, q2⟩ => ?_
  exact hf v u s2 x y H2 I2 r1 r2 q2

theorem pe_op {op : Operator} {r : R2} (ho : OpR X (binaryOp op) r) (ha : PE X a ta) (hb : PE X b tb) : PE X (.BinOp a op b pos) (tOp r ta tb) := by
  intro pins s σ H Q I h
  exact wpAny_BinOp (binT ha hb I h fun v u s2 x y H2 I2 rx ry q => ho pins s2 σ H2 x y v u Q I2 rx ry q)
theorem opI {f : Value → Value → Sem Value} {C : Int → Int → Prop} {g : Int → Int → Int}
    (rule : ∀ (i j : Int) (t u : Tok) (s : Shared) (Q : Value → Shared → Prop) (E : Value → Shared → Prop), C i j → Q (.int (g i j) s.toks) { s with toks := s.toks + 1 } → wpAny (model X.prog X.w) X.A (f (.int i t) (.int j u)) Q E s) :
    OpR X f (rI C fun i j => .int (g i j)) := by
  intro pins s σ H x y v u Q I rx ry h
  obtain ⟨i, j, rfl, rfl, hc, q⟩ := h
  obtain ⟨t, rfl⟩ := rx
  obtain ⟨t', rfl⟩ := ry
  exact rule i j t t' s _ _ hc ⟨.int (g i j), H, I.tok _, ⟨_, rfl⟩, q⟩
theorem opI0 {f : Value → Value → Sem Value} {g : Int → Int → Int}
    (rule : ∀ (i j : Int) (t u : Tok) (s : Shared) (Q : Value → Shared → Prop) (E : Value → Shared → Prop), Q (.int (g i j) s.toks) { s with toks := s.toks + 1 } → wpAny (model X.prog X.w) X.A (f (.int i t) (.int j u)) Q E s) :
    OpR X f (rI0 fun i j => .int (g i j)) := by
  intro pins s σ H x y v u Q I rx ry h
  obtain ⟨i, j, rfl, rfl, q⟩ := h
  obtain ⟨t, rfl⟩ := rx
  obtain ⟨t', rfl⟩ := ry
  exact rule i j t t' s _ _ ⟨.int (g i j), H, I.tok _, ⟨_, rfl⟩, q⟩
theorem opB0 {f : Value → Value → Sem Value} {g : Int → Int → Bool}
    (rule : ∀ (i j : Int) (t u : Tok) (s : Shared) (Q : Value → Shared → Prop) (E : Value → Shared → Prop), Q (.bool (g i j)) s → wpAny (model X.prog X.w) X.A (f (.int i t) (.int j u)) Q E s) :
    OpR X f (rI0 fun i j => .bl (g i j)) := by
  intro pins s σ H x y v u Q I rx ry h
  obtain ⟨i, j, rfl, rfl, q⟩ := h
  obtain ⟨t, rfl⟩ := rx
  obtain ⟨t', rfl⟩ := ry
  exact rule i j t t' s _ _ ⟨.bl (g i j), H, I, rfl, q⟩

def CDiv (i j : Int) : Prop := 0 < j ∧ j < 1073741824
def CPow (i j : Int) : Prop := 0 ≤ j ∧ j ≤ 1000000 ∧ i.natAbs < 2 ^ 64
def CMul (i j : Int) : Prop := (-(2 ^ 64) < i ∧ i < 2 ^ 64) ∨ (-(2 ^ 64) < j ∧ j < 2 ^ 64)
theorem CMul.ok {i j : Int} (h : CMul i j) : IntMulOk i j := by
  rcases h with ⟨h1, h2⟩ | ⟨h1, h2⟩
  · exact .of_left (intBits_le_64 h1 h2)
  · exact .of_right (intBits_le_64 h1 h2)
theorem two_pow_nn (k : Nat) : (0 : Int) ≤ 2 ^ k := by
  rw [two_pow_cast]
  exact Int.natCast_nonneg _

theorem op_add : OpR X (binaryOp .Add) (rI0 fun i j => .int (i + j)) := opI0 fun _ _ _ _ _ _ _ q => add_int q
theorem op_sub : OpR X (binaryOp .Sub) (rI0 fun i j => .int (i - j)) := opI0 fun _ _ _ _ _ _ _ q => sub_int q
theorem op_mul : OpR X (binaryOp .Mult) (rI CMul fun i j => .int (i * j)) := opI fun _ _ _ _ _ _ _ hc q => mul_int q hc.ok
/-- // by a positive divisor -/
theorem op_fdiv : OpR X (binaryOp .FloorDiv) (rI CDiv fun i j => .int (i / j)) := opI fun i j _ _ _ _ _ hc q => by
  have h1 : (0 : Int) < j := hc.1
  have h2 : j < 1073741824 := hc.2
  exact floordiv_int (by omega) (by rw [Int.fdiv_eq_ediv_of_nonneg i (by omega)]; exact q) (.inl (PyProof.noPylong_small (by omega)))
/-- % by a positive divisor of any size -/
theorem op_mod : OpR X (binaryOp .Mod) (rI (fun _ j => 0 < j) fun i j => .int (i % j)) := opI fun i j _ _ _ _ _ hc q => by
  have h1 : (0 : Int) < j := hc
  exact mod_int' (by omega) (by rw [Int.fmod_eq_emod_of_nonneg i (by omega)]; exact q)
theorem op_pow : OpR X (binaryOp .Pow) (rI CPow fun i j => .int (i ^ j.toNat)) := opI fun _ _ _ _ _ _ _ hc q => pow_int_small hc.1 hc.2.1 hc.2.2 q
theorem op_shr : OpR X (binaryOp .RShift) (rI (fun _ j => 0 ≤ j) fun i j => .int (i / 2 ^ j.toNat)) := opI fun i j _ _ _ _ _ hc q =>
  rshift_int hc (by rw [Int.fdiv_eq_ediv_of_nonneg i (two_pow_nn _)]; exact q)
theorem op_and : OpR X (binaryOp .BitAnd) (rI0 fun i j => .int (Builtin.bitAnd i j)) := opI0 fun _ _ _ _ _ _ _ q => and_int q
end

/-- the scalars that == tells apart as data does -/
def scal : V → V → Bool
  | .non, .non => true | .non, .int _ => true | .int _, .non => true | .non, .bl _ => true | .bl _, .non => true | .non, .str _ => true | .str _, .non => true
  | .int _, .int _ => true | .bl _, .bl _ => true | .str _, .str _ => true | .byt _, .byt _ => true
  | .int _, .str _ => true | .str _, .int _ => true | .bl _, .str _ => true | .str _, .bl _ => true
  | _, _ => false
def rEq : R2 := fun x y H Q => scal x y = true ∧ Q (.bl (decide (x = y))) H
def rNe : R2 := fun x y H Q => scal x y = true ∧ Q (.bl (!decide (x = y))) H

theorem dec_int {i j : Int} : decide (V.int i = V.int j) = (i == j) := by
  rw [Bool.eq_iff_iff]
  simp
theorem dec_bl {i j : Bool} : decide (V.bl i = V.bl j) = (i == j) := by
  rw [Bool.eq_iff_iff]
  simp
theorem dec_str {i j : Str} : decide (V.str i = V.str j) = (i == j) := by
  rw [Bool.eq_iff_iff]
  simp
theorem dec_byt {i j : Array UInt8} : decide (V.byt i = V.byt j) = (i.toList == j.toList) := by
  rw [Bool.eq_iff_iff]
  cases i
  cases j
  simp

section
variable {X : Cx} {a b c : Expr} {ta tb tc : TE} {pos : Pos}
theorem fin_bl {pins : List (Addr × Obj)} {σ : St} {H : Hp} {s : Shared} {Q : VK} {k k' : Bool} (I : Inv X pins σ H s) (q : Q (.bl k) H) (e : k = k') : EP X pins σ Q (.bool k') s := by
  subst e
  exact ⟨.bl k, H, I, rfl, q⟩
theorem op_eq : OpR X (compareOp .Eq) rEq := by
  intro pins s σ H x y v u Q I rx ry h
  obtain ⟨hs, q⟩ := h
  cases x with
  | non =>
    cases rx
    cases y with
    | non => cases ry; exact PySem.EqNone.eq_none_none (fin_bl I q (by simp))
    | bl j => cases ry; exact PySem.EqNone.eq_none_bool (fin_bl I q (by simp))
    | int j => obtain ⟨t', rfl⟩ := ry; exact PySem.EqNone.eq_none_int (fin_bl I q (by simp))
    | str j => obtain ⟨t', rfl⟩ := ry; exact PySem.EqNone.eq_none_str (fin_bl I q (by simp))
    | _ => exact absurd (show false = true from hs) Bool.false_ne_true
  | bl i =>
    cases rx
    cases y with
    | non => cases ry; exact PySem.EqNone.eq_bool_none (fin_bl I q (by simp))
    | bl j => cases ry; exact eq_bool (fin_bl I q dec_bl)
    | str j => obtain ⟨t', rfl⟩ := ry; exact PySem.EqMixed.eq_bool_str (fin_bl I q (by simp))
    | _ => exact absurd (show false = true from hs) Bool.false_ne_true
  | int i =>
    obtain ⟨t, rfl⟩ := rx
    cases y with
    | non => cases ry; exact PySem.EqNone.eq_int_none (fin_bl I q (by simp))
    | int j => obtain ⟨t', rfl⟩ := ry; exact eq_int (fin_bl I q dec_int)
    | str j => obtain ⟨t', rfl⟩ := ry; exact PySem.EqMixed.eq_int_str (fin_bl I q (by simp))
    | _ => exact absurd (show false = true from hs) Bool.false_ne_true
  | str i =>
    obtain ⟨t, rfl⟩ := rx
    cases y with
    | non => cases ry; exact PySem.EqNone.eq_str_none (fin_bl I q (by simp))
    | bl j => cases ry; exact PySem.EqMixed.eq_str_bool (fin_bl I q (by simp))
    | int j => obtain ⟨t', rfl⟩ := ry; exact PySem.EqMixed.eq_str_int (fin_bl I q (by simp))
    | str j => obtain ⟨t', rfl⟩ := ry; exact eq_str (fin_bl I q dec_str)
    | _ => exact absurd (show false = true from hs) Bool.false_ne_true
  | byt i =>
    obtain ⟨t, rfl⟩ := rx
    cases y with
    | byt j => obtain ⟨t', rfl⟩ := ry; exact PySem.W.eq_bytes (fin_bl I q dec_byt)
    | _ => exact absurd (show false = true from hs) Bool.false_ne_true
  | _ => cases y <;> exact absurd (show false = true from hs) Bool.false_ne_true
theorem op_ne : OpR X (compareOp .NotEq) rNe := by
  intro pins s σ H x y v u Q I rx ry h
  obtain ⟨hs, q⟩ := h
  cases x with
  | non =>
    cases rx
    cases y with
    | non => cases ry; exact PySem.EqNone.ne_none_none (fin_bl I q (by simp))
    | bl j => cases ry; exact PySem.EqNone.ne_none_bool (fin_bl I q (by simp))
    | int j => obtain ⟨t', rfl⟩ := ry; exact PySem.EqNone.ne_none_int (fin_bl I q (by simp))
    | str j => obtain ⟨t', rfl⟩ := ry; exact PySem.EqNone.ne_none_str (fin_bl I q (by simp))
    | _ => exact absurd (show false = true from hs) Bool.false_ne_true
  | bl i =>
    cases rx
    cases y with
    | non => cases ry; exact PySem.EqNone.ne_bool_none (fin_bl I q (by simp))
    | bl j => cases ry; exact ne_bool (fin_bl I q (congrArg not dec_bl))
    | str j => obtain ⟨t', rfl⟩ := ry; exact PySem.EqMixed.ne_bool_str (fin_bl I q (by simp))
    | _ => exact absurd (show false = true from hs) Bool.false_ne_true
  | int i =>
    obtain ⟨t, rfl⟩ := rx
    cases y with
    | non => cases ry; exact PySem.EqNone.ne_int_none (fin_bl I q (by simp))
    | int j => obtain ⟨t', rfl⟩ := ry; exact ne_int (fin_bl I q (congrArg not dec_int))
    | str j => obtain ⟨t', rfl⟩ := ry; exact PySem.EqMixed.ne_int_str (fin_bl I q (by simp))
    | _ => exact absurd (show false = true from hs) Bool.false_ne_true
  | str i =>
    obtain ⟨t, rfl⟩ := rx
    cases y with
    | non => cases ry; exact PySem.EqNone.ne_str_none (fin_bl I q (by simp))
    | bl j => cases ry; exact PySem.EqMixed.ne_str_bool (fin_bl I q (by simp))
    | int j => obtain ⟨t', rfl⟩ := ry; exact PySem.EqMixed.ne_str_int (fin_bl I q (by simp))
    | str j => obtain ⟨t', rfl⟩ := ry; exact ne_str (fin_bl I q (congrArg not dec_str))
    | _ => exact absurd (show false = true from hs) Bool.false_ne_true
  | byt i =>
    obtain ⟨t, rfl⟩ := rx
    cases y with
    | byt j => obtain ⟨t', rfl⟩ := ry; exact PySem.W.ne_bytes (fin_bl I q (congrArg not dec_byt))
    | _ => exact absurd (show false = true from hs) Bool.false_ne_true
  | _ => cases y <;> exact absurd (show false = true from hs) Bool.false_ne_true

theorem op_lt : OpR X (compareOp .Lt) (rI0 fun i j => .bl (decide (i < j))) := opB0 fun _ _ _ _ _ _ _ q => lt_int q
theorem op_le : OpR X (compareOp .LtE) (rI0 fun i j => .bl (decide (i ≤ j))) := opB0 fun _ _ _ _ _ _ _ q => le_int q
theorem op_gt : OpR X (compareOp .Gt) (rI0 fun i j => .bl (decide (j < i))) := opB0 fun _ _ _ _ _ _ _ q => gt_int q
theorem nomark (b : Expr) {op : CmpOp} (h : op ≠ .In := by decide) (h2 : op ≠ .NotIn := by decide) : behindInMarks op b = false := by
  have e1 : (op == CmpOp.In) = false := by cases op <;> first | rfl | exact absurd rfl h
  have e2 : (op == CmpOp.NotIn) = false := by cases op <;> first | rfl | exact absurd rfl h2
  cases b <;> simp [behindInMarks, e1, e2]
/-- a comparison as a value; hm: nomark b, or (for in, not in) by with_unfolding_all rfl -/
theorem pe_cmpR {op : CmpOp} {r : R2} (ho : OpR X (compareOp op) r) (ha : PE X a ta) (hb : PE X b tb) (hm : behindInMarks op b = false) : PE X (.Compare a [op] [b] pos) (tOp r ta tb) := by
  intro pins s σ H Q I h
  exact wpAny_Compare1 (binT ha hb I h fun v u s2 x y H2 I2 rx ry q => ho pins s2 σ H2 x y v u Q I2 rx ry q) hm
/-- a reading of a value as a test -/
def tTest (t : TE) : TT := fun σ H Q => t σ H fun x H' => ∃ k, x = .bl k ∧ Q k H'
theorem pt_cmpR {op : CmpOp} {r : R2} (ho : OpR X (compareOp op) r) (ha : PE X a ta) (hb : PE X b tb) (hm : behindInMarks op b = false) : PT X (.Compare a [op] [b] pos) (tTest (tOp r ta tb)) := by
  intro pins s σ H Q I h
  refine wpAny_isTrue_Compare1 (thn (ha pins s σ H _ I h) fun v s1 ⟨x, H1, I1, r1, q1⟩ => thn (hb pins s1 σ H1 _ I1 q1) fun u s2 ⟨y, H2, I2, r2, q2⟩ =>
    thn (ho pins s2 σ H2 x y v u _ I2 r1 r2 q2) fun c s3 ⟨z, H3, I3, r3, k, e, q3⟩ => ?_) hm
  subst e
  cases r3
  exact wpAny_truthy_bool ⟨H3, I3, q3⟩
theorem line63 : (sizeLine : Nat) < 2 ^ 63 := by rw [sizeLine_eq]; decide
theorem vals1 {x : V} {us : List Value} (r : Vals [x] us) : ∃ u, us = [u] ∧ RelV x u := by
  cases r with
  | cons r1 r2 => cases r2; exact ⟨_, rfl, r1⟩
theorem vals2 {x y : V} {us : List Value} (r : Vals [x, y] us) : ∃ u w', us = [u, w'] ∧ RelV x u ∧ RelV y w' := by
  cases r with
  | cons r1 r2 =>
    cases r2 with
    | cons r3 r4 => cases r4; exact ⟨_, _, rfl, r1, r3⟩
theorem call_abs : CallR X (.builtin "abs") (fun xs H Q => ∃ i, xs = [.int i] ∧ Q (.int (if i < 0 then -i else i)) H) := by
  intro pins s σ H xs us Q I r h
  obtain ⟨i, rfl, q⟩ := h
  obtain ⟨u, rfl, t, rfl⟩ := vals1 r
  exact call_abs_int fun u tk => ⟨.int (if i < 0 then -i else i), H, I.tok _, ⟨_, rfl⟩, q⟩
theorem call_max2 (hc : X.calm = true) : CallR X (.builtin "max") (fun xs H Q => ∃ i j, xs = [.int i, .int j] ∧ Q (.int (if j > i then j else i)) H) := by
  intro pins s σ H xs us Q I r h
  obtain ⟨i, j, rfl, q⟩ := h
  obtain ⟨u, w', rfl, ⟨t, rfl⟩, ⟨t', rfl⟩⟩ := vals2 r
  refine max_two_ints (I.ok.hd hc) fun h' tk k => ⟨_, H, I.kept k, ?_, q⟩
  by_cases hj : j > i
  · rw [if_pos hj, if_pos hj]; exact ⟨_, rfl⟩
  · rw [if_neg hj, if_neg hj]; exact ⟨_, rfl⟩
theorem call_min2 (hc : X.calm = true) : CallR X (.builtin "min") (fun xs H Q => ∃ i j, xs = [.int i, .int j] ∧ Q (.int (if j < i then j else i)) H) := by
  intro pins s σ H xs us Q I r h
  obtain ⟨i, j, rfl, q⟩ := h
  obtain ⟨u, w', rfl, ⟨t, rfl⟩, ⟨t', rfl⟩⟩ := vals2 r
  refine min_two_ints (I.ok.hd hc) fun h' tk k => ⟨_, H, I.kept k, ?_, q⟩
  by_cases hj : j < i
  · rw [if_pos hj, if_pos hj]; exact ⟨_, rfl⟩
  · rw [if_neg hj, if_neg hj]; exact ⟨_, rfl⟩
end
end L2

namespace L2
open PySem PySem.Spec PyProof.Rows

structure ObjM (h : Heap) (x dx C : Addr) (mA : Str → Option Value) : Prop where
  obj : h.get? x = some (PySem.W.instObj C dx)
  ns : h.Ns1 dx mA
  ne : dx ≠ x

theorem lookIn_ns {h : Heap} {dx : Addr} {mA : Str → Option Value} (n : h.Ns1 dx mA) : ∃ od, h.get? dx = some od ∧ ∀ name, PySem.W.lookIn name od = some (mA name) := by
  obtain ⟨o, es, ep, ho, hd, hk, _, hm⟩ := n
  refine ⟨o, ho, fun name => ?_⟩
  have e := hm name
  unfold nsFind findBy at e
  rw [← Array.find?_toList] at e
  unfold PySem.W.lookIn
  rw [hd]
  dsimp only
  split
  · rename_i y q
    rw [q] at e
    exact congrArg some e
  · rename_i q
    rw [q] at e
    have a : es.toList.any (·.refKey) = false := by
      rw [List.any_eq_false]
      intro y hy
      obtain ⟨z, t, hkey⟩ := hk y (Array.mem_toList_iff.mp hy)
      simp [DictEntry.refKey, hkey]
    have a' : ¬ es.toList.any (·.refKey) = true := by rw [a]; exact Bool.false_ne_true
    rw [if_neg a']
    exact congrArg some e

theorem ObjM.look {h : Heap} {x dx C : Addr} {mA : Str → Option Value} (I : ObjM h x dx C mA) : ∃ od, PySem.W.InstAt h x (PySem.W.instObj C dx) C (some od) ∧ ∀ name, PySem.W.lookIn name od = some (mA name) :=
  let ⟨od, ho, hl⟩ := lookIn_ns I.ns
  ⟨od, ⟨I.obj, rfl, rfl, ho⟩, hl⟩

section
variable {P : Program} {w : World} {H H' : Hp} {h h' : Heap} {a C dx : Addr} {fs fs' : List (Str × V)}
theorem ins_get (hok : HOk P w H h) (e : H a = some (.ins C dx fs)) : ∃ mA, ObjM h a dx C mA ∧ (∀ f, RelO (fs.lookup f) (mA f)) ∧ PySem.Within mA (fs.map (·.1)) ∧ fs.length ≤ 1000 ∧ H dx = some (.own a) := by
  obtain ⟨d, z, ne, ob, mA, n, r, q⟩ := (show ObjOk P w H h a (.ins C dx fs) from hok a _ e)
  exact ⟨mA, ⟨ob, n, ne⟩, r, q, z, d⟩
end

structure Cls (K : PySem.W.Frag) (C : Addr) : Prop where
  pg : PySem.W.plainGet K C Str.empty = true
  hd : PySem.W.hasDictIn K C = true
  po : PySem.W.plainOver K C = true
  sa : PySem.W.findIn K (.ref C) "__setattr__" = some (some (.builtin "object.__setattr__"))
theorem Cls.get {K : PySem.W.Frag} {C : Addr} (c : Cls K C) (f : Str) : PySem.W.plainGet K C f = true := c.pg
section
variable {X : Cx} {pins : List (Addr × Obj)} {σ : St} {H : Hp} {s : Shared} {A : Around} {E : Value → Shared → Prop} {Q : Value → Shared → Prop} {c : Value} {b : Bool}
/-- the type of a value, as the fragment's deciders take it; for an instance its class -/
inductive TyOf (K : PySem.W.Frag) (H : Hp) : V → Value → Prop where
  | non : TyOf K H .non (.type "NoneType")
  | bl (x : Bool) : TyOf K H (.bl x) (.type "bool")
  | int (i : Int) : TyOf K H (.int i) (.type "int")
  | str (x : Str) : TyOf K H (.str x) (.type "str")
  | flt (x : UInt64) : TyOf K H (.flt x) (.type "float")
  | lst {a : Addr} {xs : List V} (e : H a = some (.lst xs)) : TyOf K H (.ref a) (.type "list")
  | frz {a : Addr} {o : Obj} {xs : List V} (e : H a = some (.frz o (.lst xs))) : TyOf K H (.ref a) (.type "list")
  | tup {a : Addr} {xs : List V} (e : H a = some (.tup xs)) : TyOf K H (.ref a) (.type "tuple")
  | dK {a : Addr} {kvs : List (Key × V)} (e : H a = some (.dK kvs)) : TyOf K H (.ref a) (.type "dict")
  | dT {a : Addr} {kvs : List (List Key × V)} (e : H a = some (.dT kvs)) : TyOf K H (.ref a) (.type "dict")
  | ins {a C dx : Addr} {fs : List (Str × V)} (e : H a = some (.ins C dx fs)) (cl : Cls K C) (ha : PySem.W.findIn K (.ref C) "__class__" = some (some (.builtin "object.__class__")))
      (hn : PySem.W.specialIn K (.builtin "object.__class__") "__get__" = some (some (.builtin "getset_descriptor.__get__"))) (htk : PySem.W.takesIn K (.builtin "object.__class__") = some true)
      (hm : PySem.W.mroIn K C (.type "object") = some true) : TyOf K H (.ref a) (.ref C)
/-- isinstance(x, c) for one class c, a built-in or an own one: kitOne's answer -/
theorem isinst_ok {x : V} {u t : Value} (I : Inv X pins σ H s) (rx : RelV x u) (ty : TyOf X.K H x t) (e : PySem.W.kitOne X.K t c = some b) (h : ∀ tk, Q (.bool b) { s with toks := tk }) :
    wpAny (model X.prog X.w) A (call (.builtin "isinstance") [u, c]) Q E s := by
  cases ty with
  | non => cases (show u = Value.none from rx); exact PySem.W.kia_one PySem.W.kitx_none I.kIn True.intro e (fun z => nomatch z) h
  | bl y => cases (show u = Value.bool y from rx); exact PySem.W.kia_one PySem.W.kitx_bool I.kIn True.intro e (fun z => nomatch z) h
  | int i => obtain ⟨t, q⟩ := (show ∃ t, u = Value.int i t from rx); cases q; exact PySem.W.kia_one PySem.W.kitx_int I.kIn True.intro e (fun z => nomatch z) h
  | str y => obtain ⟨t, q⟩ := (show ∃ t, u = Value.str y t from rx); cases q; exact PySem.W.kia_one PySem.W.kitx_str I.kIn True.intro e (fun z => nomatch z) h
  | flt y => obtain ⟨t, q⟩ := (show ∃ t, u = Value.float y t from rx); cases q; exact PySem.W.kia_one PySem.W.kitx_float I.kIn True.intro e (fun z => nomatch z) h
  | @lst a xs ea =>
    cases (show u = Value.ref a from rx)
    obtain ⟨_, _, n, _, h1⟩ := (show ObjOk X.prog X.w H s.heap a (.lst xs) from I.hok a _ ea)
    exact PySem.W.kia_one PySem.W.kitx_list I.kIn ⟨_, h1, rfl⟩ e (fun z => nomatch z) h
  | @frz a ob xs ea =>
    cases (show u = Value.ref a from rx)
    obtain ⟨_, _, _, n, _, h1⟩ := (show ObjOk X.prog X.w H s.heap a (.frz ob (.lst xs)) from I.hok a _ ea)
    exact PySem.W.kia_one PySem.W.kitx_list I.kIn ⟨_, h1, rfl⟩ e (fun z => nomatch z) h
  | @tup a xs ea =>
    cases (show u = Value.ref a from rx)
    obtain ⟨_, _, _, p⟩ := (show ObjOk X.prog X.w H s.heap a (.tup xs) from I.hok a _ ea)
    obtain ⟨o, h1, h2, _⟩ := p
    exact PySem.W.kia_one PySem.W.kitx_tuple I.kIn ⟨o, h1, h2⟩ e (fun z => nomatch z) h
  | @dK a kvs ea =>
    cases (show u = Value.ref a from rx)
    obtain ⟨_, _, vs, _, p⟩ := (show ObjOk X.prog X.w H s.heap a (.dK kvs) from I.hok a _ ea)
    obtain ⟨o, es, ep, h1, h2, _⟩ := p
    exact PySem.W.kia_one PySem.W.kitx_dict I.kIn ⟨o, h1, h2.1⟩ e (fun z => nomatch z) h
  | @dT a kvs ea =>
    cases (show u = Value.ref a from rx)
    obtain ⟨_, _, xs, _, o, es, ep, h1, h2, _⟩ := (show ObjOk X.prog X.w H s.heap a (.dT kvs) from I.hok a _ ea)
    exact PySem.W.kia_one PySem.W.kitx_dict I.kIn ⟨o, h1, h2.1⟩ e (fun z => nomatch z) h
  | @ins a C dx fs ea cl ha hn htk hm =>
    cases (show u = Value.ref a from rx)
    obtain ⟨mA, O, _⟩ := ins_get I.hok ea
    obtain ⟨od, J, _⟩ := O.look
    exact PySem.W.kia_one (PySem.W.kitx_own (cl.get _) cl.hd ha hn htk hm) I.kIn J e (fun z => nomatch z) h
end
end L2

namespace L2
open PySem PySem.Spec PyProof.Rows

structure Room (k : Nat) (A : Around) : Prop where
  hd : A.handled = none
  dp : A.depth + 3 * k + 5 < recursionLimit
  un : A.units + 16 * k + 200 < cLine
theorem Room.mono {j k : Nat} {A : Around} (r : Room k A) (h : j ≤ k) : Room j A := ⟨r.hd, by have := r.dp; omega, by have := r.un; omega⟩
theorem Room.deeper {k : Nat} {A : Around} (r : Room (k + 1) A) (env : Env) : Room k (A.deeper env) :=
  ⟨r.hd, by have := r.dp; show A.depth + 1 + 3 * k + 5 < _; omega, by have := r.un; show A.units + 3 + 16 * k + 200 < _; omega⟩
theorem Room.depth {k : Nat} {A : Around} (r : Room k A) : A.depth < recursionLimit := by have := r.dp; omega
theorem Room.units {k : Nat} {A : Around} (r : Room k A) : A.units + 64 < cLine := by have := r.un; omega
theorem Room.units0 {k : Nat} {A : Around} (r : Room k A) : A.units < cLine := by have := r.un; omega

def tNil : TA := fun _ H Q => Q [] H
def tCons (ta : TE) (tr : TA) : TA := fun σ H Q => ta σ H fun x H1 => tr σ H1 fun xs H2 => Q (x :: xs) H2
section
variable {X : Cx} {e : Expr} {es : List Expr} {te : TE} {t : TA} {pos : Pos}
theorem pa_nil : PA X [] tNil := fun _ _ _ _ H Q I h => Calls.spliced_nil ⟨[], H, I, .nil, h⟩
theorem pa_cons (ha : PE X e te) (hr : PA X es t) (hs : starEach (e :: es) X.env = (false, eval e X.env) :: starEach es X.env := by rfl) : PA X (e :: es) (tCons te t) := by
  intro pos pins s σ H Q I h
  rw [hs]
  show wpAny _ _ (spliced ((false, eval e X.env) :: backTo pos (starEach es X.env))) _ _ s
  refine Calls.spliced_cons (thn (ha pins s σ H _ I h) fun u s1 ⟨x, H1, I1, r1, q1⟩ => ?_)
  exact thn (hr pos pins s1 σ H1 _ I1 q1) fun us s2 ⟨xs, H2, I2, r2, q2⟩ => ⟨x :: xs, H2, I2, .cons r1 r2, q2⟩

/-- a tuple, a list of written items -/
def tTup (t : TA) : TE := fun σ H Q => t σ H fun xs H1 => xs.length ≤ sizeLine ∧ ∀ p, H1 p = none → Q (.ref p) (upd H1 p (.tup xs))
def tLst (t : TA) : TE := fun σ H Q => t σ H fun xs H1 => xs.length ≤ sizeLine ∧ ∀ p, H1 p = none → Q (.ref p) (upd H1 p (.lst xs))
theorem pe_tup {x1} (h : PA X es t) : PE X (.Tuple es x1 pos) (tTup t) := by
  intro pins s σ H Q I hq
  refine wpAny_Tuple_spliced (thn (h pos pins s σ H _ I hq) fun us s1 ⟨xs, H1, I1, r, z, q⟩ => ⟨by rw [← r.length]; exact z, ?_⟩)
  have hf : H1 s1.heap.objs.size = none := I1.hok.fresh (Nat.le_refl _)
  refine ⟨.ref s1.heap.objs.size, upd H1 s1.heap.objs.size (.tup xs), I1.laid (t' := s1.toks) (fun b u e => Heap.get?_push_of_some _ e) (Nat.le_refl _) ?_, rfl, q _ hf⟩
  exact ⟨z, us, r, ⟨_, Heap.get?_push_size _ rfl, rfl, _, rfl⟩⟩
theorem pe_lst (h : PA X es t) : PE X (.List es pos) (tLst t) := by
  intro pins s σ H Q I hq
  refine wpAny_List_spliced (thn (h pos pins s σ H _ I hq) fun us s1 ⟨xs, H1, I1, r, z, q⟩ => ⟨by rw [← r.length]; exact z, ?_⟩)
  have hf : H1 s1.heap.objs.size = none := I1.hok.fresh (Nat.le_refl _)
  refine ⟨.ref s1.heap.objs.size, upd H1 s1.heap.objs.size (.lst xs), I1.laid (t' := s1.toks) (fun b u e => Heap.get?_push_of_some _ e) (Nat.le_refl _) ?_, rfl, q _ hf⟩
  exact ⟨z, us, 0, r, Heap.get?_push_size _ rfl⟩
end

/-- a def's promise: the bound arguments in the parameters' order, the heap, the wanted end, the wanted exception -/
abbrev Sp := List V → Hp → VK → XK → Prop
/-- how an exception lies behind a call (file 08 gives it): the callers' frames, abstract heap and state ahead of the call, the wish, the exception, the state -/
abbrev CXT := List Env → Hp → Shared → XK → Value → Shared → Prop

/-- the state at a call -/
structure Env0 (P : Program) (w : World) (K : PySem.W.Frag) (mg : Str → Option Value) (base : Heap) (A : Around) (outer : List Env) (s : Shared) (H : Hp) : Prop where
  frames : A.frames = some outer
  mod : Mod K mg base
  bs : ∀ b o, base.get? b = some o → s.heap.get? b = some o ∧ H b = none
  bsz : base.objs.size ≤ s.heap.objs.size
  funs : s.heap.FunFrames base outer
  frf : ∀ b ∈ frs outer, H b = none
  hok : HOk P w H s.heap
  bare : AllBare s.gens
/-- a call's end -/
def CE (outer : List Env) (P : Program) (w : World) (H : Hp) (s : Shared) (Q : VK) (u : Value) (s' : Shared) : Prop :=
  ∃ v H', s'.os = s.os ∧ AllBare s'.gens ∧ Un (frs outer) [] H H' s.heap s'.heap ∧ HOk P w H' s'.heap ∧ RelV v u ∧ Q v H'
def CR (CX : CXT) (outer : List Env) (P : Program) (w : World) (H : Hp) (s : Shared) (Q : VK) (E : XK) (r : Result) (s' : Shared) : Prop :=
  match r with
  | .ok (.ret u) => CE outer P w H s Q u s'
  | .ok _ => False
  | .error e => CX outer H s E e s'
structure FnOk (P : Program) (w : World) (K : PySem.W.Frag) (mg : Str → Option Value) (base : Heap) (CX : CXT) (k : Nat) (f : Addr) (fd : FuncData) (ps : List Str) (sp : Sp) : Prop where
  len : ∀ vs H Q E, sp vs H Q E → vs.length = ps.length
  run : ∀ (A : Around) (outer : List Env) (s : Shared) (H : Hp) (args : Args) (us : List Value) (vs : List V) (Q : VK) (E : XK), Room k A → Env0 P w K mg base A outer s H → BindsTo s fd args (ps.zip us) → Vals vs us → sp vs H Q E →
    codeAny (model P w) A (.call (.ref f) args) (CR CX outer P w H s Q E) s
section
variable {X : Cx} {pins : List (Addr × Obj)} {σ : St} {H : Hp} {s s' : Shared}
/-- from a body: what a callee wants -/
theorem Inv.env0 (I : Inv X pins σ H s) : Env0 X.prog X.w X.K X.mg X.base X.A X.stack s H :=
  ⟨I.ok.frames, I.ok.mod, I.bs, Nat.le_trans I.ok.bsz I.sz, I.stack, I.stkFree, I.hok, I.bare⟩
/-- behind a call -/
theorem Inv.after {Q : VK} {u : Value} (I : Inv X pins σ H s) (h : CE X.stack X.prog X.w H s Q u s') : EP X pins σ Q u s' := by
  obtain ⟨v, H', os, bare, un, hok, r, q⟩ := h
  obtain ⟨hh, g, d, t, os'⟩ := s'
  obtain rfl : os' = s.os := os
  exact ⟨v, H', I.call (h' := hh) (g' := g) (d' := d) (t' := t) (ch := []) un hok bare (fun b z => absurd z (by simp)), r, q⟩
end

/-- how the parameters are bound: us the positional arguments, kw the keywords' values by name, ds the defaults that fill up -/
def Binds (K : PySem.W.Frag) (fd : FuncData) (ps : List Str) (ds : List Value) : Prop :=
  ∀ (s : Shared) (us : List Value), K.In s.heap → (us ++ ds).length = ps.length → BindsTo s fd ⟨us, []⟩ (ps.zip (us ++ ds))
/-- every parameter is given -/
theorem Binds.all {K : PySem.W.Frag} {fd : FuncData} {ps : List Str} (h : ∀ us : List Value, us.length = ps.length → bindArgs fd ⟨us, []⟩ = pure (ps.zip us)) : Binds K fd ps [] := fun s us _ hl => by
  rw [List.append_nil] at hl ⊢
  exact .of_eq (h us hl)

/-- an exception of a callee reaches what this body wants of exceptions -/
def Passes (CX : CXT) (X : Cx) (E : XK) : Prop := ∀ (pins : List (Addr × Obj)) (σ : St) (H : Hp) (s : Shared) (e : Value) (s' : Shared), Inv X pins σ H s → CX X.stack H s E e s' → X.xe e s'

section
variable {X : Cx} {CX : CXT} {k : Nat} {f C : Addr} {fd : FuncData} {ps : List Str} {sp : Sp} {dvs : List V} {ds : List Value} {E : XK} {x m : Str} {p pos apos : Pos} {e o : Expr} {es : List Expr} {ta : TE} {t : TA}

/-- the callee runs -/
theorem run_fn {pins : List (Addr × Obj)} {σ : St} {H : Hp} {s : Shared} {Q : VK} {us : List Value} {vs : List V} (F : FnOk X.prog X.w X.K X.mg X.base CX k f fd ps sp) (hr : Room k X.A) (hb : Binds X.K fd ps ds) (hd : Vals dvs ds) (hx : Passes CX X E)
    (I : Inv X pins σ H s) (r : Vals vs us) (h : sp (vs ++ dvs) H Q E) : wpAny (model X.prog X.w) X.A (call (.ref f) us) (EP X pins σ Q) X.xe s := by
  have r2 : Vals (vs ++ dvs) (us ++ ds) := r.append hd
  have hl : (us ++ ds).length = ps.length := by rw [← r2.length]; exact F.len _ _ _ _ h
  refine wpAny_call (codeAny_mono (F.run X.A X.stack s H ⟨us, []⟩ (us ++ ds) (vs ++ dvs) Q E hr I.env0 (hb s us I.kIn hl) r2 h) fun r s' hq => ?_)
  cases r with
  | error e => exact hx pins σ H s e s' I hq
  | ok fl =>
    cases fl with
    | ret u => exact I.after hq
    | next => exact False.elim hq
    | brk => exact False.elim hq
    | cont => exact False.elim hq

end

/-- names: the parameters first -/
structure FnScope (N P : List Str) (sc : Scope) : Prop where
  kind : sc.kind = .function
  co : sc.isCoroutine = false
  gen : sc.isGenerator = false
  nd : N.Nodup
  pre : N.take P.length = P
  par : ∀ x ∈ P, sc.names.lookup x = some .local ∨ sc.names.lookup x = some .cell
  nofree : ∀ y ∈ sc.names, y.2 ≠ .free

theorem bindL_out {kindOf : Str → Option NameKind} {x : Str} : ∀ {binds : List (Str × Value)} {m : Str → Option Value}, (∀ v, (x, v) ∉ binds) → bindL kindOf binds m x = m x
  | [], _, _ => rfl
  | (n, v) :: r, m, h => by
    unfold bindL
    rw [bindL_out fun w hw => h w (List.mem_cons_of_mem _ hw)]
    split
    · have : x ≠ n := by rintro rfl; exact h v List.mem_cons_self
      simp [this]
    · rfl
theorem bindC_out {kindOf : Str → Option NameKind} {x : Str} : ∀ {binds : List (Str × Value)} {m : Str → Option Value}, (∀ v, (x, v) ∉ binds) → bindC kindOf binds m x = m x
  | [], _, _ => rfl
  | (n, v) :: r, m, h => by
    unfold bindC
    rw [bindC_out fun w hw => h w (List.mem_cons_of_mem _ hw)]
    split
    · rfl
    · have : x ≠ n := by rintro rfl; exact h v List.mem_cons_self
      simp [this]
theorem bindL_get {kindOf : Str → Option NameKind} {x : Str} {v : Value} : ∀ {P : List Str} {vs : List Value} {i : Nat} {m : Str → Option Value}, P.Nodup → P[i]? = some x → vs[i]? = some v → kindOf x = some .local →
    bindL kindOf (P.zip vs) m x = some v
  | [], _, _, _, _, h, _, _ => by simp at h
  | _ :: _, [], _, _, _, _, h, _ => by simp at h
  | p :: P, w :: vs, 0, m, nd, h1, h2, hk => by
    simp at h1 h2; subst h1; subst h2
    show bindL kindOf ((p, w) :: P.zip vs) m p = _
    unfold bindL
    rw [bindL_out fun v hv => (List.nodup_cons.mp nd).1 (List.of_mem_zip hv).1, if_pos hk]
    simp
  | p :: P, w :: vs, i + 1, m, nd, h1, h2, hk => by
    show bindL kindOf ((p, w) :: P.zip vs) m x = _
    unfold bindL
    exact bindL_get (i := i) (List.nodup_cons.mp nd).2 (by simpa using h1) (by simpa using h2) hk
theorem bindC_get {kindOf : Str → Option NameKind} {x : Str} {v : Value} : ∀ {P : List Str} {vs : List Value} {i : Nat} {m : Str → Option Value}, P.Nodup → P[i]? = some x → vs[i]? = some v → kindOf x ≠ some .local →
    bindC kindOf (P.zip vs) m x = some v
  | [], _, _, _, _, h, _, _ => by simp at h
  | _ :: _, [], _, _, _, _, h, _ => by simp at h
  | p :: P, w :: vs, 0, m, nd, h1, h2, hk => by
    simp at h1 h2; subst h1; subst h2
    show bindC kindOf ((p, w) :: P.zip vs) m p = _
    unfold bindC
    rw [bindC_out fun v hv => (List.nodup_cons.mp nd).1 (List.of_mem_zip hv).1, if_neg hk]
    simp
  | p :: P, w :: vs, i + 1, m, nd, h1, h2, hk => by
    show bindC kindOf ((p, w) :: P.zip vs) m x = _
    unfold bindC
    exact bindC_get (i := i) (List.nodup_cons.mp nd).2 (by simpa using h1) (by simpa using h2) hk

/-- the names' values at the entry -/
def start (N : List Str) (vs : List V) : St := vs.map some ++ List.replicate (N.length - vs.length) none

/-- the context of a def's body, at its entry; an exception leaves the frame, then lies as CX says -/
def cxOf (CX : CXT) (P : Program) (w : World) (K : PySem.W.Frag) (mg : Str → Option Value) (base : Heap) (N : List Str) (qual : Str) (scope : Scope) (f : Addr) (cd : Value) (A : Around) (outer : List Env) (s : Shared) (H : Hp) (E : XK) : Cx where
  prog := P
  w := w
  K := K
  mg := mg
  base := base
  A := A.deeper (envOfC qual scope s.heap.objs.size f cd)
  N := N
  s₀ := s
  H₀ := H
  env := envOfC qual scope s.heap.objs.size f cd
  outer := outer
  stack := envOfC qual scope s.heap.objs.size f cd :: outer
  ex := []
  calm := true
  fn := fun _ => true
  pn := []
  xe := fun e s' => wpAny (model P w) (A.deeper (envOfC qual scope s.heap.objs.size f cd)) (leaving (envOfC qual scope s.heap.objs.size f cd) e) (fun _ s'' => CX outer H s E e s'') (fun e' s'' => CX outer H s E e' s'') s'

theorem cell_has {sc : Scope} {n : Nat} {x : Str} (h : sc.names.lookup x = some .cell) : ∃ c, (cellsFrom n sc.names []).lookup x = some c := by
  have q := PySem.W.cellsFrom_some sc.names n [] (.inl h)
  exact Option.isSome_iff_exists.mp q

theorem inv_start {CX : CXT} {P : Program} {w : World} {K : PySem.W.Frag} {mg : Str → Option Value} {base : Heap} {N ps : List Str} {qual : Str} {scope : Scope} {f : Addr} {cd : Value} {A : Around} {outer : List Env} {s s1 : Shared} {H : Hp} {E : XK} {us : List Value} {vs : List V}
    (S : FnScope N ps scope) (hd : A.handled = none) (e0 : Env0 P w K mg base A outer s H) (hl : vs.length = ps.length) (r : Vals vs us)
    (x : InCallC s s.heap.objs.size (bindL (envOfC qual scope s.heap.objs.size f cd).kindOf (ps.zip us) fun _ => none) (cellsFrom (s.heap.objs.size + 1) scope.names []) (bindC (envOfC qual scope s.heap.objs.size f cd).kindOf (ps.zip us) fun _ => none) s1) :
    Inv (cxOf CX P w K mg base N qual scope f cd A outer s H E) [] (start N vs) H s1 := by
  have hpl : ps.length ≤ N.length := by have := congrArg List.length S.pre; rw [List.length_take] at this; omega
  obtain ⟨h1, tk, rfl, hk⟩ := x.done
  have noA : ∀ b : Addr, b ∉ (cxOf CX P w K mg base N qual scope f cd A outer s H E).ex := fun b z => absurd (show b ∈ ([] : List Addr) from z) (by simp)
  refine ⟨⟨e0.mod, S.kind, rfl, rfl, Nat.le_refl _, fun y z c h1 h2 => ?_, fun y hy => ?_, fun y c _ h => ?_, fun _ => hd, Around.frames_deeper e0.frames, .inr ⟨rfl, rfl⟩, fun b z => absurd z (noA b), e0.bs, e0.bsz, fun b _ _ => noA b, fun b z => absurd z (noA b), e0.funs, e0.frf⟩,
    rfl, e0.bare, Un.kept hk, ⟨_, x.toInCall.ns, fun i y v h1 h2 h3 => ?_⟩, fun y c h => ⟨_, x.cell y c h⟩, e0.hok.fresh (Nat.le_refl _), fun y c h => ?_, fun p hp => absurd (show p ∈ ([] : List (Addr × Obj)) from hp) (by simp), e0.hok.kept hk, ?_⟩
  · exact name_of_addr x.apart (PySem.mem_of_lookup h1) (PySem.mem_of_lookup h2)
  · have hy : scope.names.lookup y = some .cell ∨ scope.names.lookup y = some .free := hy
    rcases hy with hy | hy
    · exact cell_has hy
    · exact absurd rfl (S.nofree _ (PySem.mem_of_lookup hy))
  · exact Nat.le_of_lt (x.above y c (PySem.mem_of_lookup h))
  · have hi : i < vs.length := by
      unfold start at h2
      by_cases hi : i < vs.length
      · exact hi
      · rw [List.getElem?_append_right (by simpa using hi)] at h2
        rw [List.getElem?_replicate] at h2
        split at h2 <;> cases h2
    have ha : vs[i]? = some v := by
      unfold start at h2
      rw [List.getElem?_append_left (by simpa using hi), List.getElem?_map] at h2
      cases e : vs[i]? with
      | none => rw [e] at h2; cases h2
      | some a => rw [e] at h2; cases h2; rfl
    obtain ⟨u, hu, rv⟩ := r.get ha
    have hp : ps[i]? = some y := by
      rw [← S.pre, List.getElem?_take_of_lt (by omega)]; exact h1
    have ndP : ps.Nodup := by rw [← S.pre]; exact S.nd.sublist (List.take_sublist _ _)
    refine ⟨u, rv, ?_⟩
    rcases S.par y (List.mem_of_getElem? hp) with k | k
    · exact .inl ⟨k, bindL_get ndP hp hu k⟩
    · obtain ⟨c, e⟩ := cell_has (n := s.heap.objs.size + 1) k
      refine .inr ⟨.inl k, c, e, ?_⟩
      have q := x.cell y c e
      rw [bindC_get ndP hp hu (by show scope.names.lookup y ≠ _; rw [k]; decide)] at q
      exact q
  · exact e0.hok.fresh (Nat.le_of_lt (x.above y c (PySem.mem_of_lookup h)))
  · unfold start
    show _ = N.length
    rw [List.length_append, List.length_map, List.length_replicate]
    omega

/-- THE RULE: a def (or a method) of the text, by its body. The body's reading t is chosen for each entry; it is run at the parameters' values -/
theorem fn_of {CX : CXT} {P : Program} {w : World} {K : PySem.W.Frag} {mg : Str → Option Value} {base : Heap} {k : Nat} {f : Addr} {name qual : Str} {params : Arguments} {body : List Stmt} {scope : Scope} {dV kV doc pm cdv ct oc : Value} {an od : Option Addr}
    {osl : Array (Option Value)} {N ps : List Str} {sp : Sp} (lk : K.lookup f = some ⟨oc, od, .func (PySem.W.fnOf name qual params body scope dV kV doc pm an cdv ct), osl⟩) (hcd : PySem.W.codeIn K cdv qual = true) (S : FnScope N ps scope)
    (len : ∀ vs H Q E, sp vs H Q E → vs.length = ps.length)
    (hbody : ∀ (A : Around) (outer : List Env) (s : Shared) (H : Hp) (vs : List V) (Q : VK) (E : XK), Room k (A.deeper (envOfC qual scope s.heap.objs.size f cdv)) → sp vs H Q E →
      ∃ t, PSs (cxOf CX P w K mg base N qual scope f cdv A outer s H E) body t ∧ t { nx := fun _ H' => Q .non H', rt := Q } (start N vs) H) :
    FnOk P w K mg base CX (k + 1) f (PySem.W.fnOf name qual params body scope dV kV doc pm an cdv ct) ps sp := by
  refine ⟨len, fun A outer s H args us vs Q E hr e0 hb r hsp => ?_⟩
  have hl := len _ _ _ _ hsp
  have KX : K.In s.heap := e0.mod.kin.keeps fun b o e => (e0.bs b o e).1
  have lim : s.heap.NoLimit := e0.mod.nolimit.keeps fun b o e => (e0.bs b o e).1
  have hkind : ∀ y ∈ ps.zip us, scope.names.lookup y.1 = some .local ∨ (scope.names.lookup y.1 = some .cell ∧ ((cellsFrom (s.heap.objs.size + 1) scope.names []).lookup y.1).isSome = true) := fun ⟨n, v⟩ hy => by
    rcases S.par n (List.of_mem_zip hy).1 with q | q
    · exact .inl q
    · exact .inr ⟨q, PySem.W.cellsFrom_some _ _ _ (.inl q)⟩
  refine codeAny_call_function hr.depth (KX _ _ lk) rfl S.co S.gen rfl (PySem.W.codeRec_of KX hcd) (hb _ _ _ _ ?_)
  refine wpAny_newFunctionEnv_cells S.kind hkind fun env he s1 x => ?_
  subst he
  refine ⟨lim.keeps x.toInCall.keep, codeAny_func ?_⟩
  obtain ⟨t, ht, hq⟩ := hbody A outer s H vs Q E (hr.deeper _) hsp
  have I : Inv (cxOf CX P w K mg base N qual scope f cdv A outer s H E) [] (start N vs) H s1 := inv_start S hr.hd e0 hl r x
  refine wpAny_mono (ht [] s1 (start N vs) H _ I hq) (fun fl s' hs => ?_) fun e s' hs => hs
  have fin : ∀ {σ' : St} {H' : Hp} {v : V} {u : Value}, Inv (cxOf CX P w K mg base N qual scope f cdv A outer s H E) [] σ' H' s' → RelV v u → Q v H' → CE outer P w H s Q u s' :=
    fun {σ' H' v u} J rv q => ⟨v, H', J.os, J.bare, J.base, J.hok, rv, q⟩
  cases fl with
  | ret u =>
    obtain ⟨v, σ', H', J, rv, q⟩ := hs
    exact fin J rv q
  | next =>
    obtain ⟨σ', H', J, q⟩ := hs
    exact fin (v := V.non) (u := Value.none) J rfl q
  | brk =>
    obtain ⟨_, _, _, q⟩ := hs
    exact False.elim q
  | cont =>
    obtain ⟨_, _, _, q⟩ := hs
    exact False.elim q
end L2

namespace L2
open PySem PySem.Spec PyProof.Rows
section
variable {X : Cx} {x : Str} {p pos : Pos} {e : Expr} {es : List Expr} {t : TA} {id T : String} {r : List V → Hp → VK → Prop}

def tCB (r : List V → Hp → VK → Prop) (t : TA) : TE := fun σ H Q => t σ H fun vs H1 => r vs H1 Q
/-- f(e, ..), f a built-in function -/
theorem pe_callB (hc : CallR X (.builtin id) r) (hg : Gl X x) (hm : X.mg x = none) (hv : bootBuiltins x = some (.builtin id)) (ha : PA X (e :: es) t) (hn : x ≠ "__name__" := by decide) (hdb : (x == ("__debug__" : Str)) = false := by decide)
    (he : starEach (e :: es) X.env = (false, eval e X.env) :: starEach es X.env := by rfl) (hpl : (backTo pos (starEach es X.env)).any (·.1) = false := by rfl) : PE X (.Call (.Name x p) (e :: es) [] pos) (tCB r t) := by
  intro pins s σ H Q I h
  refine wpAny_Call_Name_kw (ld_blt I hg hm hv ?_ hn hdb)
  exact PyProof.Rows.callWith_builtin1 (thn (ha pos pins s σ H _ I h) fun us s1 ⟨vs, H1, I1, r1, q1⟩ => hc pins s1 σ H1 vs us Q I1 r1 q1) he hpl
/-- T(e, ..), T a built-in type -/
theorem pe_callTy (hc : CallR X (.type T) r) (hg : Gl X x) (hm : X.mg x = none) (hv : bootBuiltins x = some (.type T)) (ha : PA X (e :: es) t) (hn : x ≠ "__name__" := by decide) (hdb : (x == ("__debug__" : Str)) = false := by decide)
    (he : starEach (e :: es) X.env = (false, eval e X.env) :: starEach es X.env := by rfl) (hpl : (backTo pos (starEach es X.env)).any (·.1) = false := by rfl) : PE X (.Call (.Name x p) (e :: es) [] pos) (tCB r t) := by
  intro pins s σ H Q I h
  refine wpAny_Call_Name_kw (ld_blt I hg hm hv ?_ hn hdb)
  exact PyProof.Rows.callWith_type1 (thn (ha pos pins s σ H _ I h) fun us s1 ⟨vs, H1, I1, r1, q1⟩ => hc pins s1 σ H1 vs us Q I1 r1 q1) he hpl
end
end L2

namespace HT
open PySem PyProof.Rows

/-- t < u of tuples of ints -/
def lexLt : List Int → List Int → Bool
  | [], [] => false
  | [], _ :: _ => true
  | _ :: _, [] => false
  | x :: xs, y :: ys => if x = y then lexLt xs ys else decide (x < y)
theorem lexLt_cons (x y : Int) (xs ys : List Int) : lexLt (x :: xs) (y :: ys) = if x = y then lexLt xs ys else decide (x < y) := rfl
theorem lexLt_nil_nil : lexLt [] [] = false := rfl
theorem lexLt_nil_cons (y : Int) (ys : List Int) : lexLt [] (y :: ys) = true := rfl
theorem lexLt_cons_nil (x : Int) (xs : List Int) : lexLt (x :: xs) [] = false := rfl

theorem eqAt_int (A : Around) (s : Shared) (a : Int) (t : Tok) (c : Int) (u : Tok) : ∃ e, SeqAt.EqAt A s (.int a t) (.int c u) e ∧ (e = true ↔ a = c) :=
  ⟨(a == c), SeqAt.EqAt.int_int a t c u, by simp⟩
theorem rcLt_int (A : Around) (s : Shared) (a : Int) (t : Tok) (c : Int) (u : Tok) (prog : Program) (w : World) (E : Value → Shared → Prop) (Q : Value → Shared → Prop) (h : Q (.bool (decide (a < c))) s) :
    wpAny (model prog w) A (richCompare .Lt (.int a t) (.int c u)) Q E s :=
  (PyProof.Rows.lt_int h : wpAny (model prog w) A (compareOp .Lt (.int a t) (.int c u)) Q E s)

section
open PySem.SeqAt
open PySem.AutoSeq1 (wpAny_loadPart')
open PySem.MeetsSeq PySem.MeetsSeq2 PySem.MeetsSeq3

theorem tuple_lt_ints (l b : Addr) (items items2 : Array Value) (n n2 : Nat) (dd dd2 : Option Addr) (sl sl2 : Array (Option Value)) (ns ms : List Int) (hi : IntsAre items.toList ns) (hj : IntsAre items2.toList ms) :
    Meets (Builtin.«tuple.__lt__» ⟨[.ref l, .ref b], []⟩)
      (fun _ R s => s.heap.get? l = some { cls := .type "tuple", dict := dd, data := .seq items n, slots := sl } ∧ s.heap.get? b = some { cls := .type "tuple", dict := dd2, data := .seq items2 n2, slots := sl2 } ∧
        R (.ok (.ret (.bool (lexLt ns ms)))) s) :=
  .of_wp fun prog w A R s h => by
    obtain ⟨hp, g, d, tk, os⟩ := s; obtain ⟨hl, hb, h⟩ := h
    have f2 := AutoSeq1.sub_tuple_tuple
    have z1 : items.size = ns.length := by rw [← hi.length]; simp
    have z2 : items2.size = ms.length := by rw [← hj.length]; simp
    wp_walk using wpAny_loadPart' hl, wpAny_loadPart' hb, wpAny_forIn_list _ (fun rest b s' => b.1 = none ∧ s' = ⟨hp, g, d, tk, os⟩ ∧ ∃ (vs ws : List Value) (ns' ms' : List Int), rest = vs.zip ws ∧
      IntsAre vs ns' ∧ IntsAre ws ms' ∧ ns'.length + items2.size = ms'.length + items.size ∧ R (.ok (.ret (.bool (lexLt ns' ms')))) ⟨hp, g, d, tk, os⟩) _
    case turn =>
      rintro ⟨y, x⟩ rest b s' ⟨hb', rfl, vs, ws, ns', ms', hz, hvi, hwi, hlen, hR⟩
      cases hvi with
      | nil => rw [List.zip_nil_left] at hz; cases hz
      | cons a t hvi' =>
        cases hwi with
        | nil => rw [List.zip_nil_right] at hz; cases hz
        | cons c u hwi' =>
          rw [List.zip_cons_cons] at hz
          injection hz with hyx hrest
          injection hyx with hy hx
          subst hy hx
          rw [lexLt_cons] at hR
          simp only [List.length_cons] at hlen
          obtain ⟨e, he, hiff⟩ := eqAt_int A.in1 ⟨hp, g, d, tk, os⟩ a t c u
          refine wpAny_bind (he prog w _ _ ?_)
          cases e with
          | true =>
            rw [if_pos (hiff.mp rfl)] at hR
            wp_walk
            exact ⟨rfl, rfl, _, _, _, _, hrest, hvi', hwi', by omega, hR⟩
          | false =>
            rw [if_neg (fun q => absurd (hiff.mpr q) Bool.false_ne_true)] at hR
            have hri := rcLt_int A.in1 ⟨hp, g, d, tk, os⟩ a t c u prog w
            wp_walk using hri
            exact ⟨_, rfl, by simpa using hR⟩
    case fin =>
      rintro ⟨b1, b2⟩ s' ⟨hb', rfl, vs, ws, ns', ms', hz, hvi, hwi, hlen, hR⟩
      simp only at hb'
      subst hb'
      have hv : lexLt ns' ms' = decide (items.size < items2.size) := by
        cases hvi with
        | nil =>
          cases hwi with
          | nil =>
            simp only [List.length_nil] at hlen
            rw [lexLt_nil_nil]
            exact (decide_eq_false (by omega)).symm
          | cons c u hw =>
            simp only [List.length_nil, List.length_cons] at hlen
            rw [lexLt_nil_cons]
            exact (decide_eq_true (by omega)).symm
        | cons a t hv =>
          cases hwi with
          | nil =>
            simp only [List.length_nil, List.length_cons] at hlen
            rw [lexLt_cons_nil]
            exact (decide_eq_false (by omega)).symm
          | cons c u hw =>
            rw [List.zip_cons_cons] at hz
            cases hz
      rw [hv] at hR
      wp_walk
      exact ⟨_, rfl, by simpa [Builtin.Tuple.tupleCompareSizes] using hR⟩
    case h =>
      exact ⟨rfl, rfl, items.toList, items2.toList, ns, ms, rfl, hi, hj, by omega, h⟩
end

section
variable {prog : Program} {w : World} {A : Around} {E : Value → Shared → Prop} {s : Shared}

/-- t + u, t not empty -/
theorem cat_tup {t b : Addr} {vs ws : List Value} {Q : Value → Shared → Prop} (ht : IsTup s.heap t vs.toArray) (hb : IsTup s.heap b ws.toArray) (hv : vs ≠ [])
    (h1 : ws = [] → Q (.ref t) s) (h2 : ws ≠ [] → Q (.ref s.heap.objs.size) { s with heap := s.heap.push { cls := .type "tuple", data := .seq (vs ++ ws).toArray } })
    (hsz : vs.length + ws.length ≤ sizeLine) : wpAny (model prog w) A (binaryOp .Add (.ref t) (.ref b)) Q E s := by
  obtain ⟨⟨cls, dd, data, sl⟩, ho, hc, n, hd⟩ := id ht
  obtain ⟨⟨cls2, dd2, data2, sl2⟩, ho2, hc2, n2, hd2⟩ := id hb
  simp only at hc hd hc2 hd2
  subst hc hd hc2 hd2
  have e : vs.toArray ++ ws.toArray = (vs ++ ws).toArray := by simp
  by_cases hw : ws = []
  · exact concat_meets ⟨_, ho, rfl⟩ ⟨_, ho2, rfl⟩ noFill_tuple_add seq_tuple_add PySem.F.slot_tuple_add PySem.F.entry_tuple_add (PySem.F.args_tuple_add_2 _ _)
      (tuple_addW1 t b vs.toArray ws.toArray n n2 dd dd2 sl sl2 (by simpa using hv) (by simp [hw])) ⟨ho, ho2, h1 hw⟩
  · refine concat_meets ⟨_, ho, rfl⟩ ⟨_, ho2, rfl⟩ noFill_tuple_add seq_tuple_add PySem.F.slot_tuple_add PySem.F.entry_tuple_add (PySem.F.args_tuple_add_2 _ _)
      (tuple_addW2 t b vs.toArray ws.toArray n n2 dd dd2 sl sl2 (by simpa using hv) (by simpa using hw) (by rw [List.size_toArray, List.size_toArray]; exact hsz)) ⟨ho, ho2, ?_⟩
    rw [e]
    exact h2 hw

/-- a slice's bound as a place among n (d where it is left out) -/
def sIx (n d : Nat) : Option Int → Nat
  | none => d
  | some v => if v < 0 then (v + (n : Int)).toNat else min v.toNat n
theorem sIx_none (n d : Nat) : sIx n d none = d := rfl
theorem sIx_nat (n d k : Nat) : sIx n d (some (k : Int)) = min k n := by
  show (if (k : Int) < 0 then ((k : Int) + (n : Int)).toNat else min (k : Int).toNat n) = min k n
  rw [if_neg (by omega), Int.toNat_natCast]
theorem sIx_le (n d : Nat) (hd : d ≤ n) (o : Option Int) : sIx n d o ≤ n := by
  cases o with
  | none => exact hd
  | some v =>
    show (if v < 0 then (v + (n : Int)).toNat else min v.toNat n) ≤ n
    by_cases hv : v < 0
    · rw [if_pos hv]; omega
    · rw [if_neg hv]; exact Nat.min_le_right _ _
theorem clip_eq (v : Int) (n d : Nat) : (if v < 0 then max (v + (n : Int)) 0 else min v (n : Int)) = ((sIx n d (some v) : Nat) : Int) := by
  show (if v < 0 then max (v + (n : Int)) 0 else min v (n : Int)) = (((if v < 0 then (v + (n : Int)).toNat else min v.toNat n) : Nat) : Int)
  by_cases hv : v < 0
  · simp only [if_pos hv]; omega
  · simp only [if_neg hv]; omega
theorem adjust_gen (lo hi : Option Int) (n : Nat) : Builtin.Slice.sliceAdjust lo hi 1 (n : Int) = (((sIx n 0 lo : Nat) : Int), ((sIx n n hi : Nat) : Int)) := by
  have h1 : ¬ ((1 : Int) < 0) := by omega
  unfold Builtin.Slice.sliceAdjust
  simp only [h1, if_false]
  refine Prod.ext ?_ ?_
  · cases lo with
    | none => rfl
    | some v => exact clip_eq v n 0
  · cases hi with
    | none => rfl
    | some v => exact clip_eq v n n
theorem places_gen (i j : Nat) : Builtin.Slice.slicePlaces (i : Int) (j : Int) 1 = j - i := by
  unfold Builtin.Slice.slicePlaces
  have h1 : (1 : Int) > 0 := by omega
  simp only [h1, if_true, Int.ediv_one]
  split <;> omega
theorem slicePart_ {v : Value} {o : Option Int} {Q : Option Int → Shared → Prop} (p : IsPart v o) (h : Q o s) : wpAny (model prog w) A (Builtin.Slice.slicePartIndex v) Q E s := by
  cases p with
  | none => exact slicePart_none h
  | int i t => exact slicePart_int h
theorem sliceApplied_gen {sl : Addr} {vl vu : Value} {lo hi : Option Int} {n : Nat} {Q : Int × Int × Nat → Shared → Prop} (hs : s.heap.IsSliceOf sl vl vu .none) (pl : IsPart vl lo) (pu : IsPart vu hi)
    (h : Q (((sIx n 0 lo : Nat) : Int), 1, sIx n n hi - sIx n 0 lo) s) : wpAny (model prog w) A (Builtin.Slice.sliceApplied (.ref sl) (pure (n : Int))) Q E s := by
  obtain ⟨os, hos, hcs, hds⟩ := id hs
  unfold Builtin.Slice.sliceApplied Builtin.Slice.sliceFields
  refine wpAny_bind (wpAny_bind (wpAny_field hos hds (x := vl) rfl (wpAny_bind (wpAny_field hos hds (x := vu) rfl (wpAny_bind (wpAny_field hos hds (x := .none) rfl (wpAny_pure ?_)))))))
  refine wpAny_bind (slicePart_none ?_)
  show wpAny _ _ (if ((1 : Int) == 0) = true then _ else _) _ _ s
  rw [if_neg (by decide)]
  refine wpAny_bind (slicePart_ pl (wpAny_bind (slicePart_ pu (wpAny_bind (wpAny_pure ?_)))))
  show wpAny _ _ (match Builtin.Slice.sliceAdjust lo hi 1 (n : Int) with | (lo, hi) => pure (lo, (1 : Int), Builtin.Slice.slicePlaces lo hi 1)) _ _ s
  rw [adjust_gen lo hi n]
  show wpAny _ _ (pure (((sIx n 0 lo : Nat) : Int), (1 : Int), Builtin.Slice.slicePlaces ((sIx n 0 lo : Nat) : Int) ((sIx n n hi : Nat) : Int) 1)) _ _ s
  rw [places_gen]
  exact wpAny_pure h
theorem pick_gen (xs : Array Value) (i k : Nat) : ((List.range k).filterMap fun (m : Nat) => xs[((i : Int) + (m : Int) * 1).toNat]?).toArray = ((xs.toList.drop i).take k).toArray := by
  have e : (fun (m : Nat) => xs[((i : Int) + (m : Int) * 1).toNat]?) = fun m => xs[i + m]? := by
    funext m
    have : ((i : Int) + (m : Int) * 1).toNat = i + m := by omega
    rw [this]
  rw [e]
  have := pick_run xs i k
  rw [List.filterMap_map] at this
  have e2 : ((fun x => xs[x]?) ∘ fun x => i + x) = fun m => xs[i + m]? := rfl
  rw [e2] at this
  rw [this]

theorem getItem_tuple_cut {t sl : Addr} {items : Array Value} {vl vu : Value} {lo hi : Option Int} {Q : Value → Shared → Prop} (ht : IsTup s.heap t items) (hs : s.heap.IsSliceOf sl vl vu .none) (pl : IsPart vl lo) (pu : IsPart vu hi)
    (hw : ¬ (sIx items.size 0 lo = 0 ∧ sIx items.size items.size hi = items.size))
    (h : Q (.ref s.heap.objs.size) { s with heap := s.heap.push { cls := .type "tuple", data := .seq ((items.toList.drop (sIx items.size 0 lo)).take (sIx items.size items.size hi - sIx items.size 0 lo)).toArray } })
    (hsz : items.size ≤ sizeLine) : wpAny (model prog w) A (getItem (.ref t) (.ref sl)) Q E s := by
  have htake : sizeOk (.seq ((items.toList.drop (sIx items.size 0 lo)).take (sIx items.size items.size hi - sIx items.size 0 lo)).toArray) := by
    show ((items.toList.drop (sIx items.size 0 lo)).take (sIx items.size items.size hi - sIx items.size 0 lo)).toArray.size ≤ sizeLine
    rw [List.size_toArray, List.length_take, List.length_drop, Array.length_toList]
    omega
  have hj : sIx items.size items.size hi ≤ items.size := sIx_le _ _ (Nat.le_refl _) hi
  obtain ⟨os, hos, hcs, hds⟩ := id hs
  have hTs : s.TypeIs (.ref sl) "slice" := ⟨os, hos, hcs⟩
  unfold getItem
  try with_reducible refine wpAny_holding ?_
  first | refine wpAny_bind (wpAny_pure ?_) | skip
  refine wpAny_bind (wpAny_sequenceKey ht.typeIs (by decide) ?_)
  refine wpAny_bind (wpAny_callSpecial?_slot (name := Str.ofString "__getitem__") ht.typeIs PyProof.Rows.slot_tuple_getitem
    (wpAny_call_entry PyProof.Rows.slot_tuple_getitem ht.typeIs entry_tuple_getitem ?_ (args_tuple_getitem _ _)))
  show wpAny _ _ (Builtin.Tuple.tupleItemsOf (.ref t) >>= _) _ _ s
  refine wpAny_bind (tupleItemsOf_ ht ?_)
  refine wpAny_bind (wpAny_typeOf hTs ?_)
  rw [if_pos (by decide)]
  refine wpAny_bind (sliceApplied_gen hs pl pu ?_)
  have hno : ¬ ((((sIx items.size 0 lo : Nat) : Int) == 0 && (1 : Int) == 1 && (sIx items.size items.size hi - sIx items.size 0 lo) == items.size) = true) := by
    intro q
    rw [Bool.and_eq_true, Bool.and_eq_true] at q
    have q1 : ((sIx items.size 0 lo : Nat) : Int) = 0 := eq_of_beq q.1.1
    have q2 : sIx items.size items.size hi - sIx items.size 0 lo = items.size := eq_of_beq q.2
    exact hw ⟨by omega, by omega⟩
  show wpAny _ _ (if (((sIx items.size 0 lo : Nat) : Int) == 0 && (1 : Int) == 1 && (sIx items.size items.size hi - sIx items.size 0 lo) == items.size) = true then _ else _) _ _ s
  rw [if_neg hno, pick_gen]
  first
    | exact wpAny_bind (m := Builtin.Tuple.tupleExact _) (wpAny_newObj_type (wpAny_pure ⟨_, rfl, wpAny_pure h⟩) htake)
    | exact wpAny_bind (m := Builtin.Tuple.tupleExact _) (wpAny_newObj_type (wpAny_bind (wpAny_pure (wpAny_pure ⟨_, rfl, wpAny_pure h⟩))) htake)
    | exact wpAny_bind (wpAny_bind (m := Builtin.Tuple.tupleExact _) (wpAny_newObj_type (wpAny_pure (wpAny_pure ⟨_, rfl, wpAny_pure h⟩)) htake))
    | exact wpAny_bind (wpAny_bind (m := Builtin.Tuple.tupleExact _) (wpAny_newObj_type (wpAny_pure ⟨_, rfl, wpAny_pure h⟩) htake))
end
end HT

namespace L2
open PySem PySem.Spec PyProof.Rows

abbrev TO := St → Hp → (Option Int → Hp → Prop) → Prop
/-- a slice's part (left out, or an int) -/
def PO (X : Cx) (e : Option Expr) (t : TO) : Prop :=
  ∀ (pins : List (Addr × Obj)) (s : Shared) (σ : St) (H : Hp) (Q : Option Int → Hp → Prop), Inv X pins σ H s → t σ H Q →
    wpAny (model X.prog X.w) X.A (evalPart e X.env) (fun u s' => ∃ o H', Inv X pins σ H' s' ∧ IsPart u o ∧ Q o H') X.xe s
def tNoPart : TO := fun _ H Q => Q none H
def tPart (t : TE) : TO := fun σ H Q => t σ H fun x H1 => ∃ i, x = .int i ∧ Q (some i) H1

theorem intsAre_of {ns : List Int} : ∀ {us : List Value}, Vals (ns.map V.int) us → IntsAre us ns := by
  induction ns with
  | nil => intro us r; rw [List.map_nil] at r; cases r; exact .nil
  | cons n ns ih =>
    intro us r
    rw [List.map_cons] at r
    cases r with
    | cons r1 r2 =>
      obtain ⟨t, e⟩ := r1
      subst e
      exact .cons n t (ih r2)

section
variable {X : Cx} {e : Expr} {te : TE} {lo hi : Option Expr} {tl th : TO} {pos p2 : Pos}

theorem po_none : PO X none tNoPart := by
  intro pins s σ H Q I h
  rw [evalPart_none]
  exact wpAny_pure ⟨none, H, I, .none, h⟩
theorem po_some (h : PE X e te) : PO X (some e) (tPart te) := by
  intro pins s σ H Q I hw
  rw [evalPart_some]
  refine thn (h pins s σ H _ I hw) fun u s1 ⟨x, H1, I1, r1, q1⟩ => ?_
  obtain ⟨i, rfl, q⟩ := q1
  obtain ⟨t, rfl⟩ := r1
  exact ⟨some i, H1, I1, .int i t, q⟩

/-- what a slice of a value is, by values: the slice object stands at sl -/
def SlR (X : Cx) (r : V → Option Int → Option Int → Hp → VK → Prop) : Prop :=
  ∀ (pins : List (Addr × Obj)) (s : Shared) (σ : St) (H : Hp) (x : V) (v vl vu : Value) (lo hi : Option Int) (sl : Addr) (Q : VK), Inv X pins σ H s → RelV x v → s.heap.IsSliceOf sl vl vu .none → IsPart vl lo → IsPart vu hi → r x lo hi H Q →
    ∃ T id, typeLookup (.type T) "__getitem__" = pure (some (.builtin id)) ∧ s.TypeIs v T ∧ wpAny (model X.prog X.w) X.A (getItem v (.ref sl)) (EP X pins σ Q) X.xe s
def tSl (r : V → Option Int → Option Int → Hp → VK → Prop) (te : TE) (tl th : TO) : TE := fun σ H Q => te σ H fun x H1 => tl σ H1 fun l H2 => th σ H2 fun u H3 => r x l u H3 Q
/-- a[lo:hi], any a -/
theorem pe_slice {r : V → Option Int → Option Int → Hp → VK → Prop} (hr : SlR X r) (he : PE X e te) (hl : PO X lo tl) (hu : PO X hi th) : PE X (.Subscript e (.Slice lo hi none p2) pos) (tSl r te tl th) := by
  intro pins s σ H Q I h
  refine Subscript_ (thn (he pins s σ H _ I h) fun v s1 ⟨x, H1, I1, r1, q1⟩ => ?_)
  refine wpAny_Slice (thn (hl pins s1 σ H1 _ I1 q1) fun vl s2 ⟨l, H2, I2, pl, q2⟩ => thn (hu pins s2 σ H2 _ I2 q2) fun vu s3 ⟨u, H3, I3, pu, q3⟩ => ?_)
  rw [evalPart_none]
  refine wpAny_pure ?_
  have I4 : Inv X pins σ H3 { s3 with heap := s3.heap.push { cls := .type "slice", data := .fields #[vl, vu, .none] } } := I3.kept (t' := s3.toks) fun b ob q => Heap.get?_push_of_some _ q
  obtain ⟨T, id, hT, ht, hg⟩ := hr pins { s3 with heap := s3.heap.push { cls := .type "slice", data := .fields #[vl, vu, .none] } } σ H3 x v vl vu l u s3.heap.objs.size Q I4 r1 (Heap.IsSliceOf.new ..) pl pu q3
  show wpAny (model X.prog X.w) X.A (subscriptTail e (.Slice lo hi none p2) v (.ref s3.heap.objs.size)) (EP X pins σ Q) X.xe { s3 with heap := s3.heap.push { cls := .type "slice", data := .fields #[vl, vu, .none] } }
  exact tail_any (ops := [.ref s3.heap.objs.size, v]) ht hT hg (by with_unfolding_all rfl)

/-- the items of xs[lo:hi] -/
def cutV (xs : List V) (lo hi : Option Int) : List V := (xs.drop (HT.sIx xs.length 0 lo)).take (HT.sIx xs.length xs.length hi - HT.sIx xs.length 0 lo)
theorem cutV_length (xs : List V) (lo hi : Option Int) : (cutV xs lo hi).length ≤ xs.length := by
  unfold cutV
  rw [List.length_take, List.length_drop]
  omega
/-- t[lo:hi], not the whole of it (the whole would be t itself) -/
def rSlT (K : PySem.W.Frag) : V → Option Int → Option Int → Hp → VK → Prop := fun x lo hi H Q => ∃ a xs, x = .ref a ∧ SqT K H a xs ∧
  ¬ (HT.sIx xs.length 0 lo = 0 ∧ HT.sIx xs.length xs.length hi = xs.length) ∧ ∀ p, H p = none → Q (.ref p) (upd H p (.tup (cutV xs lo hi)))
theorem sl_tup : SlR X (rSlT X.K) := by
  intro pins s σ H x v vl vu lo hi sl Q I rx hs pl pu h
  obtain ⟨a, xs, rfl, hx, hw, q⟩ := h
  cases rx
  obtain ⟨its, r, ht, hz⟩ := I.tuple hx
  have hlen : its.toArray.size = xs.length := by rw [List.size_toArray]; exact r.length.symm
  refine ⟨"tuple", _, PyProof.Rows.slot_tuple_getitem.lookup, ht.typeIs, ?_⟩
  refine HT.getItem_tuple_cut ht hs pl pu (by rw [hlen]; exact hw) ?_ (by rw [hlen]; exact hz)
  rw [hlen]
  refine ⟨.ref s.heap.objs.size, _, I.laid (t' := s.toks) (o := .tup (cutV xs lo hi)) (fun b ob q => Heap.get?_push_of_some _ q) (Nat.le_refl _) ?_, rfl, q _ (I.hok.fresh (Nat.le_refl _))⟩
  exact ⟨Nat.le_trans (cutV_length xs lo hi) hz, _, (r.drop (HT.sIx xs.length 0 lo)).take (HT.sIx xs.length xs.length hi - HT.sIx xs.length 0 lo), IsTup.new _ _⟩

/-- t + u, t not empty: u empty gives t itself -/
def rCatT (K : PySem.W.Frag) : R2 := fun x y H Q => ∃ a b xs ys, x = .ref a ∧ y = .ref b ∧ SqT K H a xs ∧ SqT K H b ys ∧ xs ≠ [] ∧ xs.length + ys.length ≤ sizeLine ∧
  (ys = [] → Q (.ref a) H) ∧ (ys ≠ [] → ∀ p, H p = none → Q (.ref p) (upd H p (.tup (xs ++ ys))))
theorem Vals.nil_iff {xs : List V} {us : List Value} (r : Vals xs us) : us = [] ↔ xs = [] := by
  cases r with
  | nil => simp
  | cons _ _ => simp
theorem op_catT : OpR X (binaryOp .Add) (rCatT X.K) := by
  intro pins s σ H x y v u Q I rx ry h
  obtain ⟨a, b, xs, ys, rfl, rfl, ha, hb, hx, hz, q1, q2⟩ := h
  cases rx
  cases ry
  obtain ⟨its, r1, p1, _⟩ := I.tuple ha
  obtain ⟨its2, r2, p2, _⟩ := I.tuple hb
  refine HT.cat_tup p1 p2 (fun z => hx (r1.nil_iff.mp z)) (fun z => ⟨.ref a, H, I, rfl, q1 (r2.nil_iff.mp z)⟩) (fun z => ?_) (by rw [← r1.length, ← r2.length]; exact hz)
  refine ⟨.ref s.heap.objs.size, _, I.laid (t' := s.toks) (o := .tup (xs ++ ys)) (fun b ob q => Heap.get?_push_of_some _ q) (Nat.le_refl _) ?_, rfl, q2 (fun w => z (r2.nil_iff.mpr w)) _ (I.hok.fresh (Nat.le_refl _))⟩
  exact ⟨by rw [List.length_append]; exact hz, _, r1.append r2, IsTup.new _ _⟩
end
end L2

namespace L2
open PySem PySem.Spec PyProof.Rows

/-- the place that an index of any sign means -/
def ixN (n : Nat) (i : Int) : Option Nat := if 0 ≤ i then (if i < n then some i.toNat else none) else if -(n : Int) ≤ i then some (i + n).toNat else none
def atI {α : Type} (xs : List α) (i : Int) : Option α := (ixN xs.length i).bind fun j => xs[j]?
theorem ixN_seq {n : Nat} {i : Int} {j : Nat} (h : ixN n i = some j) : seqIndex? i n = some j ∧ j < n ∧ -(n : Int) ≤ i ∧ i < n := by
  unfold ixN at h
  by_cases h0 : 0 ≤ i
  · rw [if_pos h0] at h
    by_cases h1 : i < n
    · rw [if_pos h1] at h
      have e : i.toNat = j := Option.some.inj h
      exact ⟨by rw [seqIndex_of h0 h1, e], by omega, by omega, h1⟩
    · rw [if_neg h1] at h; cases h
  · rw [if_neg h0] at h
    by_cases h1 : -(n : Int) ≤ i
    · rw [if_pos h1] at h
      have e : (i + n).toNat = j := Option.some.inj h
      exact ⟨by rw [seqIndex_neg (by omega) h1, e], by omega, h1, by omega⟩
    · rw [if_neg h1] at h; cases h
theorem atI_get {α : Type} {xs : List α} {i : Int} {v : α} (h : atI xs i = some v) : ∃ j, seqIndex? i xs.length = some j ∧ xs[j]? = some v ∧ j < xs.length ∧ -(xs.length : Int) ≤ i ∧ i < xs.length := by
  unfold atI at h
  cases e : ixN xs.length i with
  | none => rw [e] at h; cases h
  | some j =>
    rw [e] at h
    obtain ⟨h1, h2, h3, h4⟩ := ixN_seq e
    exact ⟨j, h1, h, h2, h3, h4⟩
theorem atI_nat {α : Type} {xs : List α} {j : Nat} {v : α} (h : xs[j]? = some v) : atI xs (j : Int) = some v := by
  have hj : j < xs.length := (List.getElem?_eq_some_iff.mp h).1
  have e : ixN xs.length (j : Int) = some j := by
    unfold ixN
    rw [if_pos (by omega), if_pos (by omega)]; simp
  unfold atI; rw [e]; exact h
/-- what stands as an index of a plain subscript -/
def PlainIx (b : Expr) : Prop := ∀ o i, subscripted b false o i = operate [o, i] (getItem o i)
/-- a subscript by values -/
def IxR (X : Cx) (r : R2) : Prop :=
  ∀ (value slice : Expr) (pins : List (Addr × Obj)) (s : Shared) (σ : St) (H : Hp) (x y : V) (v u : Value) (Q : VK), Inv X pins σ H s → RelV x v → RelV y u → r x y H Q →
    subscripted slice false v u = operate [v, u] (getItem v u) → wpAny (model X.prog X.w) X.A (subscriptTail value slice v u) (EP X pins σ Q) X.xe s
/-- a call of a builtin's method by values: the receiver, the arguments -/
def MtR (X : Cx) (id : String) (r : V → List V → Hp → VK → Prop) : Prop :=
  ∀ (pins : List (Addr × Obj)) (s : Shared) (σ : St) (H : Hp) (x : V) (xs : List V) (v : Value) (us : List Value) (Q : VK), Inv X pins σ H s → RelV x v → Vals xs us → r x xs H Q →
    wpAny (model X.prog X.w) X.A (call (.builtin id) (v :: us)) (EP X pins σ Q) X.xe s
section
variable {X : Cx} {a b : Expr} {ta tb : TE} {pos : Pos}
/-- a[b] -/
theorem pe_ix {r : R2} (hr : IxR X r) (ha : PE X a ta) (hb : PE X b tb) (hs : PlainIx b) : PE X (.Subscript a b pos) (tOp r ta tb) := by
  intro pins s σ H Q I h
  exact Subscript_ (binT ha hb I h fun v u s2 x y H2 I2 rx ry q => hr a b pins s2 σ H2 x y v u Q I2 rx ry q (hs _ _))

def rIxL (K : PySem.W.Frag) : R2 := fun x y H Q => ∃ p xs i v, x = .ref p ∧ y = .int i ∧ SqL K H p xs ∧ atI xs i = some v ∧ Q v H
def rIxT (K : PySem.W.Frag) : R2 := fun x y H Q => ∃ p xs i v, x = .ref p ∧ y = .int i ∧ SqT K H p xs ∧ atI xs i = some v ∧ Q v H
theorem ix_list : IxR X (rIxL X.K) := by
  intro value slice pins s σ H x y v u Q I rx ry h hs
  obtain ⟨p, xs, i, z, rfl, rfl, hq, he, q⟩ := h
  cases rx
  obtain ⟨t, rfl⟩ := ry
  obtain ⟨its, r, pl, hz⟩ := I.list hq
  obtain ⟨j, h1, h2, h3, h4, h5⟩ := atI_get he
  obtain ⟨w, ew, rw'⟩ := r.get h2
  have hl := r.length
  have hn := line63
  have fin : EP X pins σ Q w s := ⟨z, H, I, rw', q⟩
  by_cases h0 : 0 ≤ i
  · have hj : i.toNat = j := by
      rw [seqIndex_of h0 h5] at h1
      exact Option.some.inj h1
    exact item_listR pl.isList h0 (by omega) (by rw [hj]; simpa using ew) fin hs
  · have hj : (i + (its.toArray.size : Int)).toNat = j := by
      rw [seqIndex_neg (by omega) h4] at h1
      rw [List.size_toArray, ← hl]
      exact Option.some.inj h1
    exact subscriptTail_builtinR (x := w) pl.isList.typeIs slot_list_getitem.lookup
      (wpAny_getItem_list_neg (Q := fun r s' => r = w ∧ EP X pins σ Q r s') pl.isList (by omega) (by rw [List.size_toArray] <;> omega) (by omega) (by rw [hj]; simpa using ew) ⟨rfl, fin⟩) hs
theorem ix_tup : IxR X (rIxT X.K) := by
  intro value slice pins s σ H x y v u Q I rx ry h hs
  obtain ⟨p, xs, i, z, rfl, rfl, hq, he, q⟩ := h
  cases rx
  obtain ⟨t, rfl⟩ := ry
  obtain ⟨its, r, pl, hz⟩ := I.tuple hq
  obtain ⟨j, h1, h2, h3, h4, h5⟩ := atI_get he
  obtain ⟨w, ew, rw'⟩ := r.get h2
  have hl := r.length
  have hn := line63
  have fin : EP X pins σ Q w s := ⟨z, H, I, rw', q⟩
  exact subscriptTail_builtinR (x := w) pl.typeIs slot_tuple_getitem.lookup
    (getItem_tuple (j := j) (Q := fun r s' => r = w ∧ EP X pins σ Q r s') pl (by omega) (by omega) (by rw [List.size_toArray, ← hl]; exact h1) (by simpa using ew) ⟨rfl, fin⟩) hs
def flatV : V → Bool
  | .non => true
  | .bl _ => true
  | .int _ => true
  | .str _ => true
  | _ => false
/-- == of flat values -/
def eqV : V → V → Bool
  | .non, .non => true
  | .bl a, .bl b => a == b
  | .bl a, .int b => (if a then 1 else 0) == b
  | .int a, .bl b => a == (if b then 1 else 0)
  | .int a, .int b => a == b
  | .str a, .str b => a == b
  | _, _ => false
theorem eqAt_V {A : Around} {s : Shared} {y x : V} {u v : Value} (ry : RelV y u) (rx : RelV x v) (fy : flatV y = true) (fx : flatV x = true) : SeqAt.EqAt A s u v (eqV y x) := by
  cases y with
  | non =>
    cases ry
    cases x with
    | non => cases rx; exact SeqAt.EqAt.same _
    | bl b => cases rx; exact SeqAt.EqAt.none_bool b
    | int b => obtain ⟨t, rfl⟩ := rx; exact SeqAt.EqAt.none_int b t
    | str b => obtain ⟨t, rfl⟩ := rx; exact SeqAt.EqAt.none_str b t
    | _ => exact absurd (show false = true from fx) Bool.false_ne_true
  | bl a =>
    cases ry
    cases x with
    | non => cases rx; exact SeqAt.EqAt.bool_none a
    | bl b => cases rx; exact SeqAt.EqAt.bool_bool a b
    | int b => obtain ⟨t, rfl⟩ := rx; exact SeqAt.EqAt.bool_int a b t
    | str b => obtain ⟨t, rfl⟩ := rx; exact SeqAt.EqAt.bool_str a b t
    | _ => exact absurd (show false = true from fx) Bool.false_ne_true
  | int a =>
    obtain ⟨t', rfl⟩ := ry
    cases x with
    | non => cases rx; exact SeqAt.EqAt.int_none a t'
    | bl b => cases rx; exact SeqAt.EqAt.int_bool a t' b
    | int b => obtain ⟨t, rfl⟩ := rx; exact SeqAt.EqAt.int_int a t' b t
    | str b => obtain ⟨t, rfl⟩ := rx; exact SeqAt.EqAt.int_str a t' b t
    | _ => exact absurd (show false = true from fx) Bool.false_ne_true
  | str a =>
    obtain ⟨t', rfl⟩ := ry
    cases x with
    | non => cases rx; exact SeqAt.EqAt.str_none a t'
    | bl b => cases rx; exact SeqAt.EqAt.str_bool a t' b
    | int b => obtain ⟨t, rfl⟩ := rx; exact SeqAt.EqAt.str_int a t' b t
    | str b => obtain ⟨t, rfl⟩ := rx; exact SeqAt.EqAt.str_str a t' b t
    | _ => exact absurd (show false = true from fx) Bool.false_ne_true
  | _ => exact absurd (show false = true from fy) Bool.false_ne_true
theorem call_len_seq : CallR X (.builtin "len") (fun xs H Q => ∃ p ys, xs = [.ref p] ∧ (SqL X.K H p ys ∨ SqT X.K H p ys) ∧ Q (.int ys.length) H) := by
  intro pins s σ H xs us Q I r h
  obtain ⟨p, ys, rfl, hq, q⟩ := h
  obtain ⟨u, rfl, rx⟩ := vals1 r
  cases rx
  have hn := line63
  rcases hq with hq | hq
  · obtain ⟨its, r', pl, hz⟩ := I.list hq
    have hlen := r'.length
    exact Calls.call_len_list pl.isList (by simp only [List.size_toArray] <;> omega) ⟨.int ys.length, H, I.tok _, ⟨s.toks + 1, by rw [List.size_toArray, hlen]⟩, q⟩
  · obtain ⟨its, r', pl, hz⟩ := I.tuple hq
    have hlen := r'.length
    exact len_tuple pl (by simp only [List.size_toArray] <;> omega) ⟨.int ys.length, H, I.tok _, ⟨s.toks + 1, by rw [List.size_toArray, hlen]⟩, q⟩
theorem call_list_of : CallR X (.type "list") (fun xs H Q => ∃ p ys, xs = [.ref p] ∧ (SqL X.K H p ys ∨ SqT X.K H p ys) ∧ ∀ l, H l = none → Q (.ref l) (upd H l (.lst ys))) := by
  intro pins s σ H xs us Q I r h
  obtain ⟨p, ys, rfl, hq, q⟩ := h
  obtain ⟨u, rfl, rx⟩ := vals1 r
  cases rx
  have fin : ∀ (its : List Value), Vals ys its → ys.length ≤ sizeLine → ∀ (h' : Heap) (c' : Nat), (∀ b o', s.heap.get? b = some o' → h'.get? b = some o') →
      h'.get? s.heap.objs.size = some { cls := .type "list", dict := none, data := .seq its.toArray c', slots := #[] } → EP X pins σ Q (.ref s.heap.objs.size) { s with heap := h' } := fun its r' hz h' c' kp e =>
    ⟨.ref s.heap.objs.size, _, I.laid (t' := s.toks) kp (Nat.le_refl _) (show ObjOk X.prog X.w _ h' _ (.lst ys) from ⟨hz, its, c', r', e⟩), rfl, q _ (I.hok.fresh (Nat.le_refl _))⟩
  rcases hq with hq | hq
  · obtain ⟨its, r', pl, hz⟩ := I.list hq
    have hlen := r'.length
    obtain ⟨o, ho, hc, n, hd⟩ := pl.isList
    exact call_list_seq p (.inl rfl) ho hc hd (fun h' c' kp e => fin its r' hz h' c' kp e) (by simp only [List.size_toArray] <;> omega)
  · obtain ⟨its, r', pl, hz⟩ := I.tuple hq
    have hlen := r'.length
    obtain ⟨o, ho, hc, n, hd⟩ := pl
    exact call_list_seq p (.inr rfl) ho hc hd (fun h' c' kp e => fin its r' hz h' c' kp e) (by simp only [List.size_toArray] <;> omega)
theorem call_tuple_of : CallR X (.type "tuple") (fun xs H Q => ∃ p ys, xs = [.ref p] ∧ ((SqL X.K H p ys ∧ ∀ l, H l = none → Q (.ref l) (upd H l (.tup ys))) ∨ (SqT X.K H p ys ∧ Q (.ref p) H))) := by
  intro pins s σ H xs us Q I r h
  obtain ⟨p, ys, rfl, h⟩ := h
  obtain ⟨u, rfl, rx⟩ := vals1 r
  cases rx
  rcases h with ⟨hq, q⟩ | ⟨hq, q⟩
  · obtain ⟨its, r', pl, hz⟩ := I.list hq
    have hlen := r'.length
    refine call_tuple_list pl.isList (fun h' kp => ?_) (by simp only [List.size_toArray] <;> omega)
    have I1 : Inv X pins σ H { s with heap := h' } := I.kept (t' := s.toks) kp
    have I2 : Inv X pins σ (upd H h'.objs.size (.tup ys)) { s with heap := h'.push { cls := .type "tuple", data := .seq its.toArray } } :=
      I1.laid (t' := s.toks) (fun b o e => Heap.get?_push_of_some _ e) (Nat.le_refl _) (show ObjOk X.prog X.w _ _ _ (.tup ys) from ⟨hz, its, r', IsTup.new _ _⟩)
    exact ⟨.ref h'.objs.size, _, I2, rfl, q _ (I1.hok.fresh (Nat.le_refl _))⟩
  · obtain ⟨its, r', pl, hz⟩ := I.tuple hq
    exact call_tuple_same pl ⟨.ref p, H, I, rfl, q⟩

/-- the value is of that builtin type -/
def tyV (K : PySem.W.Frag) (T : String) (x : V) (H : Hp) : Prop := match x with
  | .str _ => T = "str"
  | .int _ => T = "int"
  | .ref p => (T = "list" ∧ ∃ xs, SqL K H p xs) ∨ (T = "tuple" ∧ ∃ o, K.lookup p = some o ∧ o.cls = .type "tuple" ∧ o.dict = none) ∨
      (T = "dict" ∧ ((∃ kvs, H p = some (.dK kvs)) ∨ ∃ kvs, H p = some (.dT kvs))) ∨ (T = "set" ∧ ∃ S n, H p = some (.set S n))
  | _ => False
theorem tyV_is {pins : List (Addr × Obj)} {σ : St} {H : Hp} {s : Shared} {T : String} {x : V} {v : Value} (I : Inv X pins σ H s) (r : RelV x v) (ty : tyV X.K T x H) :
    s.TypeIs v T ∧ ∀ a, v = .ref a → ∃ ob, s.heap.get? a = some ob ∧ ob.dict = none := by
  cases x with
  | str z =>
    obtain ⟨t, rfl⟩ := r
    cases (show T = "str" from ty)
    exact ⟨typeIs_str s z t, fun _ e => nomatch e⟩
  | int i =>
    obtain ⟨t, rfl⟩ := r
    cases (show T = "int" from ty)
    exact ⟨typeIs_int s i t, fun _ e => nomatch e⟩
  | ref p =>
    cases r
    rcases ty with ⟨rfl, xs, hq⟩ | ⟨rfl, o, hk, hc, hd⟩ | ⟨rfl, hk⟩ | ⟨rfl, S, n, hk⟩
    · obtain ⟨its, _, pl, _⟩ := I.list hq
      refine ⟨pl.isList.typeIs, fun a e => ?_⟩
      cases e
      obtain ⟨o, n, e, c, hd, _⟩ := pl
      exact ⟨o, e, hd⟩
    · refine ⟨⟨o, I.kIn p o hk, hc⟩, fun a e => ?_⟩
      cases e
      exact ⟨o, I.kIn _ o hk, hd⟩
    · have z : ∃ o, s.heap.get? p = some o ∧ o.ExactDict := by
        rcases hk with ⟨kvs, hk⟩ | ⟨kvs, hk⟩
        · obtain ⟨_, _, _, _, o, _, _, e, ex, _⟩ := I.hok p _ hk
          exact ⟨o, e, ex⟩
        · obtain ⟨_, _, _, _, o, _, _, e, ex, _⟩ := I.hok p _ hk
          exact ⟨o, e, ex⟩
      obtain ⟨o, e, ex⟩ := z
      refine ⟨⟨o, e, ex.1⟩, fun a e2 => ?_⟩
      cases e2
      exact ⟨o, e, ex.2.1⟩
    · obtain ⟨o, _, _, _, e, ex, _⟩ := I.hok p _ hk
      refine ⟨⟨o, e, ex.1⟩, fun a e2 => ?_⟩
      cases e2
      exact ⟨o, e, ex.2.1⟩
  | _ => exact False.elim ty
def tBM0 (K : PySem.W.Frag) (T : String) (r : V → List V → Hp → VK → Prop) (to : TE) : TE := fun σ H Q => to σ H fun x H1 => tyV K T x H1 ∧ r x [] H1 Q
def tBM (K : PySem.W.Frag) (T : String) (r : V → List V → Hp → VK → Prop) (to : TE) (t : TA) : TE := fun σ H Q => to σ H fun x H1 => tyV K T x H1 ∧ t σ H1 fun xs H2 => r x xs H2 Q
variable {o e : Expr} {es : List Expr} {to : TE} {t : TA} {name : Str} {apos cpos : Pos} {T id : String} {r : V → List V → Hp → VK → Prop}
theorem pe_bm0 (pa : PlainAttrs T) (slot : Slot T name id) (hty : typeOf (.builtin id) = pure (.type "method_descriptor")) (hm : MtR X id r) (ho : PE X o to)
    (hbase : attributeBase o name X.env (eval o X.env) = eval o X.env := by rfl) (hline : (apos.endLine == cpos.line) = true := by rfl) : PE X (.Call (.Attribute o name apos) [] [] cpos) (tBM0 X.K T r to) := by
  intro pins s σ H Q I h
  refine wpAny_Call_method0_late hbase hline (thn (ho pins s σ H _ I h) fun v s1 ⟨x, H1, I1, r1, ty, q1⟩ => ?_)
  obtain ⟨h1, h2⟩ := tyV_is I1 r1 ty
  exact ⟨T, id, pa, slot, hty, h1, h2, Calls.callWith_builtin rfl (PySem.evalArgs_none (hm pins s1 σ H1 x [] v [] Q I1 r1 .nil q1))⟩
theorem pe_bm (pa : PlainAttrs T) (slot : Slot T name id) (hty : typeOf (.builtin id) = pure (.type "method_descriptor")) (hm : MtR X id r) (ho : PE X o to) (ha : PA X (e :: es) t)
    (hbase : attributeBase o name X.env (eval o X.env) = eval o X.env := by rfl)
    (hfew : ((backTo cpos (starEach (e :: es) X.env)).all (fun x => !x.1) && (backToKw cpos (keywordEach [] X.env)).all (fun x => x.1.isSome)
      && decide ((e :: es).length + ([] : List Keyword).length + (if ([] : List Keyword).isEmpty then 0 else 1) < 30)) = true := by rfl)
    (hline : (apos.endLine == cpos.line) = true := by rfl) (hs : starEach (e :: es) X.env = (false, eval e X.env) :: starEach es X.env := by rfl) (hplain : (backTo cpos (starEach es X.env)).any (·.1) = false := by rfl) :
    PE X (.Call (.Attribute o name apos) (e :: es) [] cpos) (tBM X.K T r to t) := by
  intro pins s σ H Q I h
  refine wpAny_Call_method_late hbase hfew hline rfl (thn (ho pins s σ H _ I h) fun v s1 ⟨x, H1, I1, r1, ty, q1⟩ => ?_)
  obtain ⟨h1, h2⟩ := tyV_is I1 r1 ty
  refine ⟨T, id, pa, slot, hty, h1, h2, ?_⟩
  have hA := ha cpos pins s1 σ H1 _ I1 q1
  rw [hs] at hA ⊢
  refine Calls.callWith_builtin (by show (false || (backTo cpos (starEach es X.env)).any (·.1)) = false; rw [hplain] <;> rfl) (Calls.evalArgs_plain ?_)
  exact thn hA fun us s2 ⟨vs, H2, I2, r2, q2⟩ => hm pins s2 σ H2 x vs v us Q I2 r1 r2 q2
end
end L2

namespace L2
open PySem PySem.Spec PyProof.Rows

def MtM (X : Cx) (id : String) (r : V → List V → Hp → VK → Prop) : Prop :=
  ∀ (pins : List (Addr × Obj)) (s : Shared) (σ : St) (H : Hp) (x : V) (xs : List V) (v : Value) (us : List Value) (Q : VK), Inv X pins σ H s → RelV x v → Vals xs us → r x xs H Q →
    wpAny (model X.prog X.w) X.A (call (.builtin id) (v :: us)) (EP X pins σ Q) X.xe s

theorem Vals.one : ∀ {x : V} {us : List Value}, Vals [x] us → ∃ u, us = [u] ∧ RelV x u
  | _, _, .cons r .nil => ⟨_, rfl, r⟩
theorem Vals.zero : ∀ {us : List Value}, Vals [] us → us = []
  | _, .nil => rfl
theorem Vals.eraseIdx : ∀ {xs : List V} {us : List Value} (i : Nat), Vals xs us → Vals (xs.eraseIdx i) (us.eraseIdx i)
  | _, _, _, .nil => .nil
  | _, _, 0, .cons _ t => t
  | _, _, i + 1, .cons r t => .cons r (Vals.eraseIdx i t)
theorem Vals.rep {xs : List V} {us : List Value} (h : Vals xs us) : ∀ k : Nat, Vals (List.replicate k xs).flatten (List.replicate k us).flatten
  | 0 => .nil
  | k + 1 => by
    rw [List.replicate_succ, List.replicate_succ, List.flatten_cons, List.flatten_cons]
    exact Vals.append h (Vals.rep h k)
theorem len_erase {α : Type} : ∀ (l : List α) (i : Nat), (l.eraseIdx i).length ≤ l.length
  | [], _ => Nat.le_refl _
  | _ :: _, 0 => Nat.le_succ _
  | _ :: r, i + 1 => Nat.succ_le_succ (len_erase r i)
theorem foldl_rep (its : List Value) : ∀ (k : Nat) (acc : List Value),
    List.foldl (fun x1 x2 => x1 ++ x2) acc.toArray (List.replicate k its.toArray) = (acc ++ (List.replicate k its).flatten).toArray
  | 0, acc => by simp
  | k + 1, acc => by
    have e : acc.toArray ++ its.toArray = (acc ++ its).toArray := by simp
    have e2 : (acc ++ its) ++ (List.replicate k its).flatten = acc ++ (List.replicate (k + 1) its).flatten := by
      rw [List.replicate_succ, List.flatten_cons, List.append_assoc]
    rw [← e2, ← foldl_rep its k (acc ++ its), ← e, List.replicate_succ, List.foldl_cons]

section
variable {X : Cx} {pins : List (Addr × Obj)} {σ : St} {H : Hp} {s : Shared} {l b : Addr} {xs ys zs : List V}

theorem Inv.lset {its its' : List Value} {n : Nat} {f : Array Value → Array Value} {t' : Nat} (I : Inv X pins σ H s) (hH : H l = some (.lst xs))
    (e : s.heap.get? l = some { cls := .type "list", data := .seq its.toArray n }) (hf : f its.toArray = its'.toArray) (hv : Vals ys its') (hz : ys.length ≤ sizeLine) :
    Inv X pins σ (upd H l (.lst ys)) { s with heap := s.heap.update l (Obj.mapSeq f), toks := t' } := by
  have q := PySem.IsL.update e f
  rw [hf] at q
  refine I.write (x := l) (e := l) (by rw [hH]; exact trivial) (.inl rfl) (fun b' u hb hu => (Heap.get?_update_other s.heap (Obj.mapSeq f) (Ne.symm hb)).trans hu) ⟨_, q⟩ ?_
  exact ⟨hz, its', _, hv, q⟩
theorem Inv.lnew {its : List Value} {t' : Nat} (I : Inv X pins σ H s) (hv : Vals ys its) (hz : ys.length ≤ sizeLine) :
    Inv X pins σ (upd H s.heap.objs.size (.lst ys)) { s with heap := s.heap.push { cls := .type "list", data := .seq its.toArray }, toks := t' } :=
  I.laid (fun _ _ q => Heap.get?_push_of_some _ q) (Nat.le_refl _) ⟨hz, its, 0, hv, Heap.get?_push_size _ rfl⟩
theorem Inv.fresh (I : Inv X pins σ H s) : H s.heap.objs.size = none := I.hok.fresh (Nat.le_refl _)
theorem Inv.lstM (I : Inv X pins σ H s) (hH : H l = some (.lst xs)) : xs.length ≤ sizeLine ∧ ∃ (its : List Value) (n : Nat), Vals xs its ∧ xs.length = its.length ∧ s.heap.get? l = some { cls := .type "list", data := .seq its.toArray n } := by
  obtain ⟨z, its, n, r, e⟩ := I.hok l _ hH
  exact ⟨z, its, n, r, r.length, e⟩

theorem notLongL {n : Nat} (h : n ≤ sizeLine) : Builtin.List.listTooLong n = false := by
  unfold Builtin.List.listTooLong
  exact decide_eq_false (by omega)
end

section
variable {X : Cx}

def rAppend : V → List V → Hp → VK → Prop := fun x vs H Q => ∃ l xs y, x = .ref l ∧ vs = [y] ∧ H l = some (.lst xs) ∧ xs.length < sizeLine ∧ Q .non (upd H l (.lst (xs ++ [y])))
theorem mt_append : MtM X "list.append" rAppend := by
  intro pins s σ H x vs v us Q I rx rv h
  obtain ⟨l, xs, y, rfl, rfl, hH, hz, q⟩ := h
  cases rx
  obtain ⟨u, rfl, ru⟩ := rv.one
  obtain ⟨z, its, n, r, hl, e⟩ := I.lstM hH
  refine call_meets F.slot_list_append ⟨_, e, rfl⟩ F.entry_list_append (F.args_list_append_2 _ _) (PySem.list_append l its.toArray n u (by rw [List.size_toArray]; omega)) ⟨e, ?_⟩
  refine ⟨.non, _, I.lset (its' := its ++ [u]) hH e (by simp) (r.append (.cons ru .nil)) ?_, rfl, q⟩
  rw [List.length_append, List.length_singleton]
  omega

def rPopAt : V → List V → Hp → VK → Prop := fun x vs H Q => ∃ l xs i k y, x = .ref l ∧ vs = [.int i] ∧ H l = some (.lst xs) ∧ -(2 ^ 63) ≤ i ∧ i < 2 ^ 63 ∧ seqIndex? i xs.length = some k ∧ xs[k]? = some y ∧ Q y (upd H l (.lst (xs.eraseIdx k)))
theorem mt_popAt : MtM X "list.pop" rPopAt := by
  intro pins s σ H x vs v us Q I rx rv h
  obtain ⟨l, xs, i, k, y, rfl, rfl, hH, h1, h2, hk, hy, q⟩ := h
  cases rx
  obtain ⟨u, rfl, ru⟩ := rv.one
  obtain ⟨t, rfl⟩ := ru
  obtain ⟨z, its, n, r, hl, e⟩ := I.lstM hH
  obtain ⟨w, hw, rw'⟩ := r.get hy
  refine call_meets F.slot_list_pop ⟨_, e, rfl⟩ F.entry_list_pop (F.args_list_pop_2 _ _)
    (MeetsSeq.list_pop_at l its.toArray n i t k w (fitsIndex_both h1 h2) (by rw [List.size_toArray, ← hl]; exact hk) (by rw [← Array.getElem?_toList]; exact hw) (by rw [List.size_toArray]; omega)) ⟨e, ?_⟩
  refine ⟨y, _, I.lset (its' := its.eraseIdx k) hH e ?_ (r.eraseIdx k) ?_, rw', q⟩
  · show its.toArray.eraseIdxIfInBounds k = (its.eraseIdx k).toArray
    rw [List.eraseIdxIfInBounds_toArray]
  · have := len_erase xs k
    omega

def rClear : V → List V → Hp → VK → Prop := fun x vs H Q => ∃ l xs, x = .ref l ∧ vs = [] ∧ H l = some (.lst xs) ∧ Q .non (upd H l (.lst []))
theorem mt_clear : MtM X "list.clear" rClear := by
  intro pins s σ H x vs v us Q I rx rv h
  obtain ⟨l, xs, rfl, rfl, hH, q⟩ := h
  cases rx
  have hus := rv.zero
  subst hus
  obtain ⟨z, its, n, r, hl, e⟩ := I.lstM hH
  refine call_meets F.slot_list_clear ⟨_, e, rfl⟩ F.entry_list_clear (F.args_list_clear_1 _) (AutoSeq1.list_clear_list_0 l its.toArray n (by rw [List.size_toArray]; omega)) ⟨e, ?_⟩
  exact ⟨.non, _, I.lset (its' := []) (ys := []) hH e rfl .nil (Nat.zero_le _), rfl, q⟩

def rCat : R2 := fun x y H Q => ∃ l b xs zs, x = .ref l ∧ y = .ref b ∧ H l = some (.lst xs) ∧ H b = some (.lst zs) ∧ xs.length + zs.length ≤ sizeLine ∧ ∀ p, H p = none → Q (.ref p) (upd H p (.lst (xs ++ zs)))
theorem op_cat : OpR X (binaryOp .Add) rCat := by
  intro pins s σ H x y v u Q I rx ry h
  obtain ⟨l, b, xs, zs, rfl, rfl, hH, hB, hz, q⟩ := h
  cases rx
  cases ry
  obtain ⟨z, its, n, r, hl, e⟩ := I.lstM hH
  obtain ⟨z2, its2, n2, r2, hl2, e2⟩ := I.lstM hB
  refine PySem.P.add_list e e2 ?_ (by rw [List.size_toArray, List.size_toArray]; omega)
  have ea : its.toArray ++ its2.toArray = (its ++ its2).toArray := by simp
  rw [ea]
  exact ⟨.ref _, _, I.lnew (t' := s.toks) (r.append r2) (by rw [List.length_append]; omega), rfl, q _ I.fresh⟩
/-- a list times an int (a negative one is nothing) -/
def rRep : R2 := fun x y H Q => ∃ l k xs, x = .ref l ∧ y = .int k ∧ H l = some (.lst xs) ∧ -(2 ^ 63) ≤ k ∧ k < 2 ^ 63 ∧ xs.length * k.toNat ≤ sizeLine ∧
  ∀ p, H p = none → Q (.ref p) (upd H p (.lst (List.replicate k.toNat xs).flatten))
theorem len_rep {α : Type} (xs : List α) (k : Nat) : (List.replicate k xs).flatten.length = k * xs.length := by
  induction k with
  | zero => simp
  | succ k ih => rw [List.replicate_succ, List.flatten_cons, List.length_append, ih, Nat.succ_mul, Nat.add_comm]
theorem op_rep : OpR X (binaryOp .Mult) rRep := by
  intro pins s σ H x y v u Q I rx ry h
  obtain ⟨l, k, xs, rfl, rfl, hH, h1, h2, hz, q⟩ := h
  cases rx
  obtain ⟨t, rfl⟩ := ry
  obtain ⟨z, its, n, r, hl, e⟩ := I.lstM hH
  have hlen : its.toArray.size * k.toNat ≤ sizeLine := by rw [List.size_toArray, ← hl]; exact hz
  have hcap : ¬ its.toArray.size * k.toNat > (2 ^ 63 - 1) / 8 := by
    have : (sizeLine : Nat) ≤ (2 ^ 63 - 1) / 8 := by decide
    omega
  have hfit : ¬ (!Builtin.List.listFitsIndex k) = true := by
    rw [fitsIndex_both h1 h2]
    exact Bool.false_ne_true
  have hlong : ¬ Builtin.List.listTooLong (its.toArray.size * k.toNat) = true := by
    rw [notLongL hlen]
    exact Bool.false_ne_true
  have hnew : List.foldl (fun x1 x2 => x1 ++ x2) #[] (List.replicate (if its.toArray.isEmpty = true then 0 else k.toNat) its.toArray) = (List.replicate k.toNat its).flatten.toArray := by
    have f0 : ∀ m : Nat, List.foldl (fun x1 x2 => x1 ++ x2) #[] (List.replicate m its.toArray) = (List.replicate m its).flatten.toArray := fun m => by
      have := foldl_rep its m []
      rw [List.nil_append] at this
      exact this
    rw [f0]
    cases its with
    | nil => simp
    | cons a r' => rw [if_neg (by simp)]
  refine wpAny_binaryOp_repeat_ref (T := "list") (U := "int") (by decide) ⟨_, e, rfl⟩ (fun s' => typeIs_int s' k t) noFill_list_mul F.fills_int_mul F.slot_int_rmul repeat_list F.slot_int_index.lookup
    (call_meets F.slot_int_rmul (typeIs_int s k t) F.entry_int_rmul (F.args_int_rmul_2 _ _) (int___rmul___int_list k t l its.toArray n)
      ⟨e, rfl, ⟨_, e, rfl⟩, call_meets F.slot_list_mul ⟨_, e, rfl⟩ F.entry_list_mul (F.args_list_mul_2 _ _) (AutoListH.list___mul___list_int_3 l its.toArray n k t hfit hcap hlong) ⟨e, ?_⟩⟩)
  rw [hnew]
  exact ⟨.ref _, _, I.lnew (t' := s.toks) (r.rep k.toNat) (by rw [len_rep, Nat.mul_comm]; exact hz), rfl, q _ I.fresh⟩

end

end L2

namespace Att
open PySem PySem.W PySem.Calls PyProof.Rows

theorem ints_of_wellAll {P : Params} {h : Heap} : ∀ (ns : List Int) (vs : List Value), WellAll P h vs (ns.map WData.int) → IntsAre vs ns := by
  intro ns
  induction ns with
  | nil =>
    intro vs w
    rw [List.map_nil] at w
    cases w
    exact .nil
  | cons n ns ih =>
    intro vs w
    rw [List.map_cons] at w
    cases w with
    | cons a b =>
      cases a
      exact .cons _ _ (ih _ b)

theorem script_of {l : OpenLaw} {n : Nat} (hn : l.most = some n) {P : Params} {h : Heap} {args : List WData} {vals : List Value}
    (hpre : l.row.toRowW.claim.pre args = true) (hwl : WellAll P h vals args) :
    ∃ a vs ns, vals = [Value.ref a] ∧ args = [WData.list (ns.map WData.int)] ∧ h.get? a = some { cls := .type "list", data := .seq vs.toArray } ∧ IntsAre vs ns ∧ ns.length ≤ n := by
  have hsh : WShape.hasAll [] args [.list .int] = true := (pre_splitW hpre).1
  have hc : l.pre.holds [] { args := args } = true := (pre_splitW hpre).2
  obtain ⟨d, r, rfl, h1, h2⟩ := hasAllW_cons hsh
  obtain rfl := hasAllW_nil h2
  obtain ⟨xs, rfl, h3⟩ := hasW_list h1
  obtain ⟨ns, rfl⟩ := items_int h3
  have hlen : ns.length ≤ n := by
    unfold OpenLaw.pre at hc
    have h4 : (WTm.not (.lt (.lit (.int (n : Int))) (.len (.arg 0)))).holds [] { args := [.list (ns.map .int)] } = true := by
      have h4 := (holds_andW hc).1
      rw [hn] at h4
      exact h4
    have h5 := condW_of h4 (w_not (w_lt w_lit (w_len_list (w_arg rfl))))
    rw [List.length_map] at h5
    refine Nat.le_of_not_lt fun q => ?_
    have q' : (n : Int) < ((ns.length : Nat) : Int) := by omega
    first
      | (rw [decide_eq_true q'] at h5; exact absurd h5 (by decide))
      | (simp at h5; omega)
  cases hwl with
  | cons w1 w2 =>
    cases w2
    cases w1 with
    | list ho hall => exact ⟨_, _, ns, rfl, rfl, ho, ints_of_wellAll ns _ hall, hlen⟩

theorem post_true (l : OpenLaw) (args : List WData) : l.row.toRowW.claim.post args (.bool true) args = true :=
  postW_of (r := l.row.toRowW) (X := (true == true))
    (show WShape.has [] (.bool true) .bool = true by first | rfl | decide | simp [WShape.has, WShape.arms, WShape.armsAll])
    (show (WTm.eq .res (.lit (.bool true))).value [] { args := args, res := some (.bool true), after := args } = some (.bool (true == true)) from w_eq_bool (w_res rfl) w_lit) rfl

/-- the same from a codeAny of the CALL (for a layer whose function contracts speak of calls) -/
theorem attach_call {l : OpenLaw} {n : Nat} {q : Program} {loose : List Str} {XP : (Str → Option Value) → Heap → Prop} {YP : World → Heap → Prop} {d : DefRec}
    (hn : l.most = some n) (hdf : d.params.defaults = [])
    (call : ∀ (w : World) (s₀ s₁ : Shared) (mg mb : Str → Option Value) (fa : Addr) (o : Obj) (pm cd doc : Value) (a : Addr) (vs : List Value) (ns : List Int),
      Ground q loose [] XP w s₀ mg mb s₁.heap → YP w s₁.heap →
      s₁.heap.get? fa = some o → o.data = .func (docDef d.name d.params d.body d.scope pm cd doc) → s₁.heap.CodeRec cd d.name → mg d.name = some (.ref fa) →
      s₁.heap.get? a = some { cls := .type "list", data := .seq vs.toArray } → IntsAre vs ns → ns.length ≤ n → s₁.gens = #[] →
      codeAny (model l.prog w) callerA (.call (.ref fa) ⟨[.ref a], []⟩) (fun r s' => r = .ok (.ret (.bool true)) ∧ OldK s₁.heap s'.heap ∧ s'.os = s₁.os ∧ AllBare s'.gens) s₁) :
    WalkO q loose XP YP l.row.toRowW d [] (fun f vs => PySem.call f vs) := by
  intro w s₀ s₁ mg mb G Y fa o pm cd doc dV kV ho hd hcd hD hmg hg args vals as hpre hlay hrd hwl hlo
  obtain rfl : dV = .none := Dflts.none hD hdf
  obtain rfl : kV = .none := Dflts.noKw hD
  obtain ⟨a, vs, ns, rfl, rfl, hobj, hints, hlen⟩ := script_of hn hpre hwl
  refine enter_call (codeAny_mono (call w s₀ s₁ mg mb fa o pm cd doc a vs ns G Y ho (fd_plain hd) hcd hmg hobj hints hlen hg) fun r s' hq => ?_)
  obtain ⟨rfl, h2, h3, h4⟩ := hq
  exact ⟨.inl ⟨.bool true, .bool true, [], rfl, fun _ => rfl, .bool true, post_true l _, fun _ => ⟨List.Pairwise.nil, fun _ hm => (nomatch hm)⟩⟩, h2, h3, h4⟩

end Att

namespace L2
open PySem PySem.Spec PyProof.Rows

theorem vals_ints : ∀ {vs : List Value} {ns : List Int}, IntsAre vs ns → Vals (ns.map V.int) vs
  | _, _, .nil => .nil
  | _, _, .cons n t h => .cons ⟨t, rfl⟩ (vals_ints h)

/-- nothing is tracked but the script, known to the object (or it is an object of the module) -/
def Only (H : Hp) : Prop := ∀ b, H b = none ∨ ∃ o xs, H b = some (.frz o (.lst xs))

/-- THE HEAD: the law's promise, at the heap behind the top. F, the promise of the law's def, may use that base is part of the heap (so K.In base, base.Ns mainGlobals mg stand in Mod) -/
theorem law_call {P : Program} {w : World} {K : PySem.W.Frag} {mg mb : Str → Option Value} {CX : CXT} {k : Nat} {fa a : Addr} {fd : FuncData} {x : Str} {sp : Sp} {s₁ : Shared} {vs : List Value} {ns : List Int}
    (KX : K.In s₁.heap) (hns : s₁.heap.Ns mainGlobals mg) (hb : s₁.heap.Ns builtinsNs mb) (hbb : ∀ x : Str, x ≠ "__name__" → mb x = bootBuiltins x) (hlim : s₁.heap.NoLimit) (hg : s₁.gens = #[])
    (ha : s₁.heap.get? a = some { cls := .type "list", data := .seq vs.toArray }) (hi : IntsAre vs ns) (hl : ns.length ≤ sizeLine) (hr : Room k callerA)
    (F : ∀ base : Heap, K.In base → base.Ns mainGlobals mg → FnOk P w K mg base CX k fa fd [x] sp) (hbind : ∀ (s : Shared) (u : Value), BindsTo s fd ⟨[u], []⟩ [(x, u)])
    (hsp : ∀ H : Hp, Only H → SqL K H a (ns.map V.int) → sp [.ref a] H (fun v _ => v = .bl true) fun _ _ _ => False)
    (hCX : ∀ H e s', CX [] H s₁ (fun _ _ _ => False) e s' → False) :
    codeAny (model P w) callerA (.call (.ref fa) ⟨[.ref a], []⟩) (fun r s' => r = .ok (.ret (.bool true)) ∧ OldK s₁.heap s'.heap ∧ s'.os = s₁.os ∧ AllBare s'.gens) s₁ := by
  have rv := vals_ints hi
  have lenV := hi.length
  -- from an abstract heap in which nothing but the script may be tracked
  have core : ∀ H : Hp, Only H → SqL K H a (ns.map V.int) → HOk P w H s₁.heap → (∀ b, H b ≠ none → b = a) → (H a ≠ none → K.lookup a = none) →
      codeAny (model P w) callerA (.call (.ref fa) ⟨[.ref a], []⟩) (fun r s' => r = .ok (.ret (.bool true)) ∧ OldK s₁.heap s'.heap ∧ s'.os = s₁.os ∧ AllBare s'.gens) s₁ := by
    intro H hO hS hok hA hK
    have base_of : ∀ {b : Addr} {o : Obj}, s₁.heap.get? b = some o → H b = none → (hidT s₁.heap H).get? b = some o := fun e n => hidT_get e n
    have noA : ∀ {b : Addr} {o : Obj} {es : Array DictEntry} {ep : Nat}, s₁.heap.get? b = some o → o.data = .dict es ep → H b = none := fun {b o es ep} e d => by
      cases q : H b with
      | none => rfl
      | some u =>
        have e' : b = a := hA b (by rw [q]; simp)
        subst e'
        rw [ha] at e; cases e
        have d' : Data.seq vs.toArray _ = Data.dict es ep := d
        cases d'
    have nsK : ∀ {b : Addr} {m : Str → Option Value}, s₁.heap.Ns b m → (hidT s₁.heap H).Ns b m := fun {b m} ⟨o, es, ep, e, d, r⟩ => ⟨o, es, ep, base_of e (noA e d), d, r⟩
    have hKb : K.In (hidT s₁.heap H) := fun b o e => base_of (KX b o e) (by
      cases q : H b with
      | none => rfl
      | some u =>
        have e' : b = a := hA b (by rw [q]; simp)
        subst e'
        rw [hK (by rw [q]; simp)] at e; cases e)
    have hM : Mod K mg (hidT s₁.heap H) := ⟨hKb, nsK hns, ⟨mb, nsK hb, hbb⟩, let ⟨mc, h1, h2⟩ := hlim; ⟨mc, nsK h1, h2⟩⟩
    have e0 : Env0 P w K mg (hidT s₁.heap H) callerA [] s₁ H := ⟨rfl, hM, fun b o e => of_hidT e, Nat.le_of_eq (hidT_size _ _), trivial, fun b hb => absurd (show b ∈ ([] : List Addr) from hb) (by simp), hok, .of_eq hg⟩
    refine codeAny_mono ((F _ hKb (nsK hns)).run callerA [] s₁ H ⟨[.ref a], []⟩ [.ref a] [.ref a] _ _ hr e0 (hbind s₁ (.ref a)) (.cons rfl .nil) (hsp H hO hS)) fun r s' h => ?_
    cases r with
    | error e => exact (hCX H e s' h).elim
    | ok fl =>
      cases fl with
      | next => exact False.elim h
      | brk => exact False.elim h
      | cont => exact False.elim h
      | ret u =>
        obtain ⟨v, H', os, bare, un, hok', r', q⟩ := h
        have q' : v = .bl true := q
        subst q'
        obtain rfl : u = Value.bool true := r'
        refine ⟨rfl, OldK.of_keep fun b o e => ?_, os, bare⟩
        cases q : H b with
        | none => exact un.keep b o e q (by intro z; exact absurd (show b ∈ ([] : List Addr) from z) (by simp)) (by simp)
        | some u =>
          rcases hO b with z | ⟨ob, xs, z⟩
          · rw [q] at z; cases z
          · have z2 := un.frzs b ob _ z
            obtain ⟨e1, _⟩ := hok b _ z
            obtain ⟨e2, _⟩ := hok' b _ z2
            rw [e] at e1; cases e1
            exact e2
  cases hk : K.lookup a with
  | some o =>
    -- the script is one of the module's own objects
    have e := KX a o hk
    rw [ha] at e
    cases e
    refine core (fun _ => none) (fun _ => .inl rfl) (.inr ⟨_, vs.toArray, _, hk, rfl, rfl, rfl, by rw [List.size_toArray, lenV]; exact hl, by simpa using rv⟩) (fun b u z => by have z' : (none : Option HO) = some u := z; cases z') (fun b z => absurd rfl z) fun z => absurd rfl z
  | none =>
    refine core (fun b => if b = a then some (.frz { cls := .type "list", data := .seq vs.toArray } (.lst (ns.map V.int))) else none) (fun b => ?_) (.inl (.inr ⟨{ cls := .type "list", data := .seq vs.toArray }, if_pos rfl⟩)) (fun b u z => ?_) (fun b z => ?_) fun _ => hk
    · by_cases hb : b = a
      · exact .inr ⟨_, _, if_pos hb⟩
      · exact .inl (if_neg hb)
    · by_cases hb : b = a
      · have z' := (if_pos hb).symm.trans z
        cases z'
        subst hb
        exact ⟨ha, by rw [List.length_map]; exact hl, vs, _, rv, ha⟩
      · have z' := (if_neg hb).symm.trans z
        cases z'
    · by_cases hb : b = a
      · exact hb
      · exact absurd (if_neg hb) z
end L2

namespace L2
open PySem PySem.Spec PyProof.Rows

/-- the goal that k_head leaves (case hc), from the law's promise. F gives the function object fd (K's own) once, then the promise over every base -/
theorem walk_of {l : PySem.W.OpenLaw} {n k : Nat} {q : Program} {loose : List Str} {XP : (Str → Option Value) → Heap → Prop} {YP : World → Heap → Prop} {d : DefRec} {K : Params → PySem.W.Frag} {CX : World → CXT} {sp : World → Sp} {x : Str}
    (hn : l.most = some n) (hn2 : n ≤ sizeLine) (hdf : d.params.defaults = []) (hr : Room k callerA)
    (hY : ∀ (w : World) (h : Heap), YP w h → (K w.params).In h)
    (F : ∀ (w : World) (mg : Str → Option Value) (fa : Addr) (h : Heap), (K w.params).In h → h.Ns mainGlobals mg → mg d.name = some (.ref fa) →
      ∃ fd : FuncData, (∀ (s : Shared) (u : Value), BindsTo s fd ⟨[u], []⟩ [(x, u)]) ∧
        ∀ base : Heap, (K w.params).In base → base.Ns mainGlobals mg → FnOk l.prog w (K w.params) mg base (CX w) k fa fd [x] (sp w))
    (hsp : ∀ (w : World) (H : Hp) (a : Addr) (ns : List Int), ns.length ≤ n → Only H → SqL (K w.params) H a (ns.map V.int) → sp w [.ref a] H (fun v _ => v = .bl true) fun _ _ _ => False)
    (hCX : ∀ (w : World) (H : Hp) (s : Shared) (e : Value) (s' : Shared), CX w [] H s (fun _ _ _ => False) e s' → False) :
    PySem.W.WalkO q loose XP YP l.row.toRowW d [] (fun f vs => PySem.call f vs) := by
  refine Att.attach_call hn hdf fun w s₀ s₁ mg mb fa o pm cd doc a vs ns G Y ho hd hcd hmg hobj hints hlen hg => ?_
  have KX := hY w _ Y
  obtain ⟨fd, hb, hF⟩ := F w mg fa _ KX G.T.g hmg
  exact law_call KX G.T.g G.T.b G.T.builtins G.T.nolimit hg hobj hints (Nat.le_trans hlen hn2) hr hF hb (fun H hO hS => hsp w H a ns hlen hO hS) fun H e s' => hCX w H s₁ e s'
end L2

namespace L2
open PySem PySem.Spec PyProof.Rows

def defArgs (s : Stmt) : Arguments := match s with
  | .FunctionDef _ a _ _ _ _ _ _ _ _ => a
  | _ => { posonlyargs := [], args := [], vararg := none, kwonlyargs := [], kw_defaults := [], kwarg := none, defaults := [] }
def defBody (s : Stmt) : List Stmt := match s with
  | .FunctionDef _ _ b _ _ _ _ _ _ _ => b
  | _ => []
def defScope (s : Stmt) : Scope := match s with
  | .FunctionDef _ _ _ _ _ _ sc _ _ _ => sc
  | _ => { kind := .function, names := [], isGenerator := false, isCoroutine := false }

abbrev CX0 : CXT := fun _ _ _ _ _ _ => False
abbrev E0 : XK := fun _ _ _ => False
theorem pass0 {X : Cx} : Passes CX0 X E0 := fun _ _ _ _ _ _ _ h => h.elim

structure Fun (K : PySem.W.Frag) (x qual : Str) (st : Stmt) (f : Addr) (fd : FuncData) : Prop where
  ex : ∃ (oc : Value) (od : Option Addr) (kV doc pm : Value) (an : Option Addr) (cdv ct : Value) (osl : Array (Option Value)),
    fd = PySem.W.fnOf x qual (defArgs st) (defBody st) (defScope st) .none kV doc pm an cdv ct ∧ K.lookup f = some ⟨oc, od, .func fd, osl⟩ ∧ PySem.W.codeIn K cdv qual = true
  kp : PySem.W.keepIn K (.ref f) = true
section
variable {P : Program} {w : World} {K : PySem.W.Frag} {mg : Str → Option Value} {base : Heap}
/-- THE RULE for a def: its body as a term of rules, and the reading of that term -/
theorem Fun.ok {x qual : Str} {st : Stmt} {f : Addr} {fd : FuncData} {N ps : List Str} {k : Nat} {sp : Sp} (F : Fun K x qual st f fd) (S : FnScope N ps (defScope st)) (len : ∀ vs H Q E, sp vs H Q E → vs.length = ps.length)
    (hbody : ∀ (cdv : Value) (A : Around) (outer : List Env) (s : Shared) (H : Hp) (vs : List V) (Q : VK) (E : XK), Room k (A.deeper (envOfC qual (defScope st) s.heap.objs.size f cdv)) → sp vs H Q E →
      ∃ t, PSs (cxOf CX0 P w K mg base N qual (defScope st) f cdv A outer s H E).nox (defBody st) t ∧ t { nx := fun _ H' => Q .non H', rt := Q } (start N vs) H) : FnOk P w K mg base CX0 (k + 1) f fd ps sp := by
  obtain ⟨oc, od, kV, doc, pm, an, cdv, ct, osl, rfl, lk, hcd⟩ := F.ex
  refine fn_of lk hcd S len fun A outer s H vs Q E hr hsp => ?_
  obtain ⟨t, h, q⟩ := hbody cdv A outer s H vs Q E hr hsp
  exact ⟨t, h.nox, q⟩
/-- how its arguments bind (no defaults): h is «fun _ _ _ _ _ _ us hl => match us, hl with | [_, _], _ => rfl», one _ a parameter -/
theorem Fun.binds {x qual : Str} {st : Stmt} {f : Addr} {fd : FuncData} {ps : List Str} (F : Fun K x qual st f fd)
    (h : ∀ (kV doc pm : Value) (an : Option Addr) (cdv ct : Value) (us : List Value), us.length = ps.length → bindArgs (PySem.W.fnOf x qual (defArgs st) (defBody st) (defScope st) .none kV doc pm an cdv ct) ⟨us, []⟩ = pure (ps.zip us)) : Binds K fd ps [] := by
  obtain ⟨oc, od, kV, doc, pm, an, cdv, ct, osl, rfl, lk, hcd⟩ := F.ex
  exact .all (h kV doc pm an cdv ct)
theorem fun_mk {x qual : Str} {st : Stmt} {f : Addr} {oc : Value} {od an : Option Addr} {osl : Array (Option Value)} {kV doc pm cdv ct : Value} (l : K.lookup f = some ⟨oc, od, .func (PySem.W.fnOf x qual (defArgs st) (defBody st) (defScope st) .none kV doc pm an cdv ct), osl⟩)
    (c : PySem.W.codeIn K cdv qual = true) (k : PySem.W.keepIn K (.ref f) = true) : Fun K x qual st f (PySem.W.fnOf x qual (defArgs st) (defBody st) (defScope st) .none kV doc pm an cdv ct) := ⟨⟨oc, od, kV, doc, pm, an, cdv, ct, osl, rfl, l, c⟩, k⟩
end
section
variable {X : Cx}
theorem pv (i : Nat) {x : Str} {pos : Pos} (hN : X.N[i]? = some x := by rfl) (hv : Vis X.env.scope x := by first | exact Or.inl rfl | exact Or.inr (Or.inl rfl) | exact Or.inr (Or.inr rfl)) (hd : (x == ("__debug__" : Str)) = false := by decide)
    (hcd : (x == ("__classdict__" : Str)) = false := by decide) : PE X (.Name x pos) (tVar i) := pe_var hN hv hd hcd
end

/-- all that was tracked is as it was -/
def Same (H H' : Hp) : Prop := ∀ b o, H b = some o → H' b = some o
theorem Same.refl (H : Hp) : Same H H := fun _ _ h => h
theorem Same.trans {H H1 H2 : Hp} (a : Same H H1) (b : Same H1 H2) : Same H H2 := fun c o h => b c o (a c o h)
theorem Same.free {H H' : Hp} (e : Same H H') {l : Addr} (h : H' l = Option.none) : H l = Option.none := by
  cases q : H l with
  | none => rfl
  | some o =>
    rw [e l o q] at h
    cases h
theorem Same.seq {K : PySem.W.Frag} {H H' : Hp} {a : Addr} {xs : List V} (e : Same H H') (h : SqL K H a xs) : SqL K H' a xs := by
  rcases h with (h | ⟨o, h⟩) | h
  · exact .inl (.inl (e _ _ h))
  · exact .inl (.inr ⟨o, e _ _ h⟩)
  · exact .inr h

end L2
namespace L2
open PySem PySem.Spec PyProof.Rows

def Has (P : Program) (w : World) (K : PySem.W.Frag) (mg : Str → Option Value) (base : Heap) (k : Nat) (x : Str) (ps : List Str) (sp : Sp) : Prop :=
  ∃ (f : Addr) (fd : FuncData), FnOk P w K mg base CX0 k f fd ps sp ∧ mg x = some (.ref f) ∧ PySem.W.keepIn K (.ref f) = true ∧ Binds K fd ps []
def tCallH (sp : Sp) (t : TA) : TE := fun σ H Q => t σ H fun vs H1 => sp vs H1 Q E0
section
variable {X : Cx} {k : Nat} {ps : List Str} {sp : Sp} {x : Str} {p pos : Pos} {e a c : Expr} {es : List Expr} {t : TA}
theorem pe_callH (C : Has X.prog X.w X.K X.mg X.base k x ps sp) (hr : Room k X.A) (hg : Gl X x) (ha : PA X (e :: es) t) (hdb : (x == ("__debug__" : Str)) = false := by decide) (he : starEach (e :: es) X.env = (false, eval e X.env) :: starEach es X.env := by rfl)
    (hpl : (backTo pos (starEach es X.env)).any (·.1) = false := by rfl) : PE X (.Call (.Name x p) (e :: es) [] pos) (tCallH sp t) := by
  obtain ⟨f, fd, F, hm, hk, hb⟩ := C
  intro pins s σ H Q I h
  refine wpAny_Call_Name_kw (ld_glob I hg hm ?_ hdb)
  refine PySem.W.callWith_K (h₀ := X.base) I.ok.mod.kin hk (thn (ha pos pins s σ H _ I h) fun us s1 ⟨vs, H1, I1, r, q⟩ => ⟨I1.kIn, ?_⟩) he hpl
  exact run_fn (dvs := []) F hr hb .nil pass0 I1 r (by rw [List.append_nil]; exact q)

theorem call_isinst : CallR X (.builtin "isinstance") (fun xs H Q => ∃ x n ty b, xs = [x, .ty n] ∧ TyOf X.K H x ty ∧ PySem.W.kitOne X.K ty (.type n) = some b ∧ Q (.bl b) H) := by
  intro pins s σ H xs us Q I r h
  obtain ⟨x, n, ty, b, rfl, hT, hk, q⟩ := h
  obtain ⟨u, w', rfl, r1, r2⟩ := vals2 r
  cases (show w' = Value.type n from r2)
  exact isinst_ok I r1 hT hk fun tk => ⟨.bl b, H, I.tok _, rfl, q⟩
end
theorem kit_same (K : PySem.W.Frag) (n : String) : PySem.W.kitOne K (.type n) (.type n) = some true := by
  unfold PySem.W.kitOne
  rw [if_pos (beq_self_eq_true _)]
theorem kit_no (K : PySem.W.Frag) {n m : String} (h1 : (Value.type n == Value.type m) = false) (h2 : PySem.W.kitMeta m = true) (h3 : (fastBuiltinMro n).map (·.contains (Value.type m)) = some false) : PySem.W.kitOne K (.type n) (.type m) = some false := by
  unfold PySem.W.kitOne
  rw [if_neg (by rw [h1]; exact Bool.false_ne_true)]
  show (if PySem.W.kitMeta m = true then PySem.W.subIn K (.type n) (.type m) else none) = some false
  rw [if_pos h2]
  exact h3
theorem kit_int_bool (K : PySem.W.Frag) : PySem.W.kitOne K (.type "int") (.type "bool") = some false := kit_no K (by decide +kernel) (by decide +kernel) (by decide +kernel)

theorem ifp {b : Bool} {A B : Prop} (h : b = true) (k : A) : if b = true then A else B := by rw [if_pos h]; exact k
theorem ifn {b : Bool} {A B : Prop} (h : b = false) (k : B) : if b = true then A else B := by rw [if_neg (by rw [h]; exact Bool.false_ne_true)]; exact k
theorem if2 {b : Bool} {A B : Prop} (h1 : b = true → A) (h2 : b = false → B) : if b = true then A else B := by
  cases b with
  | true => exact ifp rfl (h1 rfl)
  | false => exact ifn rfl (h2 rfl)
theorem eqT {x y : Int} (h : x = y) : decide (V.int x = V.int y) = true := by rw [h]; exact decide_eq_true rfl
theorem eqF {x y : Int} (h : x ≠ y) : decide (V.int x = V.int y) = false := decide_eq_false fun z => h (V.int.inj z)
theorem of_eqF {x y : Int} (h : decide (V.int x = V.int y) = false) : x ≠ y := fun z => of_decide_eq_false h (by rw [z])
theorem neF {x y : Int} (h : x = y) : (!decide (V.int x = V.int y)) = false := by rw [eqT h]; rfl
theorem notF {b : Bool} (h : b = true) : (!b) = false := by rw [h]; rfl
/-- an item of a list of ints, at a place in it -/
theorem atI_int {ns : List Int} {i : Int} (h0 : 0 ≤ i) (h1 : i < ns.length) : ∃ c, ns[i.toNat]? = some c ∧ atI (ns.map V.int) i = some (.int c) := by
  have hl : i.toNat < ns.length := by omega
  refine ⟨ns[i.toNat], List.getElem?_eq_getElem hl, ?_⟩
  have q : atI (ns.map V.int) ((i.toNat : Nat) : Int) = some (.int ns[i.toNat]) := atI_nat (by rw [List.getElem?_map, List.getElem?_eq_getElem hl]; rfl)
  rw [Int.toNat_of_nonneg h0] at q
  exact q
theorem mask31 (x : Int) : Builtin.bitAnd x 2147483647 = x % 2147483648 := PySem.W.kbt_mask x 31
end L2
namespace L2
open PySem PySem.Spec PyProof.Rows

def plainV : V → Bool
  | .int _ => true
  | .str _ => true
  | _ => false
theorem plain_flat {x : V} (h : plainV x = true) : flatV x = true := by
  cases x <;> (try (exact Bool.noConfusion (show false = true from h))) <;> rfl
theorem eqV_plain {x y : V} (hx : plainV x = true) (hy : plainV y = true) : eqV x y = decide (x = y) := by
  cases x <;> (try (exact Bool.noConfusion (show false = true from hx))) <;> cases y <;> (try (exact Bool.noConfusion (show false = true from hy))) <;> (rw [Bool.eq_iff_iff]; simp [eqV])
def eqE (xs ys : List V) (j : Nat) : Bool := eqV (xs.getD j .non) (ys.getD j .non)
theorem eq_all : ∀ {xs ys : List V}, xs.all plainV = true → ys.all plainV = true → ((List.range (min xs.length ys.length)).all (eqE xs ys) && xs.length == ys.length) = decide (xs = ys)
  | [], [], _, _ => by simp
  | [], y :: ys, _, _ => by simp
  | x :: xs, [], _, _ => by simp
  | x :: xs, y :: ys, hx, hy => by
    rw [List.all_cons, Bool.and_eq_true] at hx hy
    have ih := eq_all hx.2 hy.2
    have e : min (x :: xs).length (y :: ys).length = min xs.length ys.length + 1 := by simp only [List.length_cons]; omega
    rw [e, List.range_succ_eq_map, List.all_cons, List.all_map]
    have e2 : (List.range (min xs.length ys.length)).all (eqE (x :: xs) (y :: ys) ∘ Nat.succ) = (List.range (min xs.length ys.length)).all (eqE xs ys) := by
      congr 1
    have e3 : eqE (x :: xs) (y :: ys) 0 = decide (x = y) := eqV_plain hx.1 hy.1
    have e4 : ((x :: xs).length == (y :: ys).length) = (xs.length == ys.length) := by
      rw [Bool.eq_iff_iff]; simp
    rw [e2, e3, e4, Bool.and_assoc, ih, Bool.eq_iff_iff]
    simp
theorem eq_at {A : Around} {s : Shared} {xs ys : List V} {its its2 : List Value} (hx : xs.all plainV = true) (hy : ys.all plainV = true) (r : Vals xs its) (r2 : Vals ys its2) :
    ∀ j (h1 : j < its.toArray.size) (h2 : j < its2.toArray.size), SeqAt.EqAt A s its.toArray[j] its2.toArray[j] (eqE xs ys j) := by
  intro j h1 h2
  have e1 := r.length
  have e2 := r2.length
  rw [List.size_toArray] at h1 h2
  have g1 : xs[j]? = some xs[j] := by simp
  have g2 : ys[j]? = some ys[j] := by simp
  obtain ⟨u, hu, ru⟩ := r.get g1
  obtain ⟨v, hv, rv⟩ := r2.get g2
  have z1 : its.toArray[j]'(by rw [List.size_toArray]; exact h1) = u := by
    have := List.getElem?_eq_some_iff.mp hu
    obtain ⟨_, q⟩ := this
    simpa using q
  have z2 : its2.toArray[j]'(by rw [List.size_toArray]; exact h2) = v := by
    have := List.getElem?_eq_some_iff.mp hv
    obtain ⟨_, q⟩ := this
    simpa using q
  rw [z1, z2]
  have q1 : eqE xs ys j = eqV xs[j] ys[j] := by
    unfold eqE
    rw [List.getD_eq_getElem?_getD, List.getD_eq_getElem?_getD, g1, g2]
    rfl
  rw [q1]
  exact eqAt_V ru rv (plain_flat ((List.all_eq_true.mp hx) _ (List.getElem_mem _))) (plain_flat ((List.all_eq_true.mp hy) _ (List.getElem_mem _)))
section
variable {X : Cx}
def rEqT (K : PySem.W.Frag) (g : Bool → Bool) : R2 := fun x y H Q => ∃ a b xs ys, x = .ref a ∧ y = .ref b ∧ SqT K H a xs ∧ SqT K H b ys ∧ xs.all plainV = true ∧ ys.all plainV = true ∧ Q (.bl (g (decide (xs = ys)))) H
theorem size_eqs {xs ys : List V} {its its2 : List Value} (hx : xs.all plainV = true) (hy : ys.all plainV = true) (r : Vals xs its) (r2 : Vals ys its2) :
    ((List.range (min its.toArray.size its2.toArray.size)).all (eqE xs ys) && its.toArray.size == its2.toArray.size) = decide (xs = ys) := by
  rw [List.size_toArray, List.size_toArray, ← r.length, ← r2.length]
  exact eq_all hx hy
theorem op_neT (hu : X.A.units < cLine) : OpR X (compareOp .NotEq) (rEqT X.K fun b => !b) := by
  intro pins s σ H x y v u Q I rx ry h
  obtain ⟨a, b, xs, ys, rfl, rfl, ha, hb, fx, fy, q⟩ := h
  cases rx; cases ry
  obtain ⟨its, r, p, hz⟩ := I.tuple ha
  obtain ⟨its2, r2, p2, hz2⟩ := I.tuple hb
  refine SeqAt.RcNeAt.tuples (e := eqE xs ys) p p2 hu (eq_at fx fy r r2) _ _ _ _ ⟨.bl _, H, I, rfl, ?_⟩
  rw [size_eqs fx fy r r2]
  exact q
end
end L2
namespace L2
open PySem PySem.Spec PyProof.Rows

def Cx.blk (X : Cx) (N : List Str) (sc : Scope) (cl : List (Str × Addr)) (C : Addr) (s : Shared) (H : Hp) (ex : List Addr) : Cx where
  prog := X.prog
  w := X.w
  K := X.K
  mg := X.mg
  base := X.base
  A := X.A
  N := N
  s₀ := s
  H₀ := H
  env := compEnvC sc cl C X.env
  outer := X.stack
  stack := X.stack
  ex := ex
  fn := fun _ => false
  calm := X.calm
  pn := []
  xe := fun _ _ => False

/-- x: the block's own name; ys: the outer names that it reads, standing at the places js of the outer frame -/
structure BlkScope (osc : Scope) (N : List Str) (x : Str) (ys : List Str) (js : List Nat) (sc : Scope) : Prop where
  kind : sc.kind = .function
  nocell : ∀ y ∈ sc.names, y.2 ≠ .cell
  loc : ∀ y ∈ sc.names, y.2 = .local → sc.names.lookup y.1 = some .local
  var : sc.names.lookup x = some .local
  out : ∀ y ∈ sc.names, y.2 = .free → osc.names.lookup y.1 = some .cell ∨ osc.names.lookup y.1 = some .free
  free : ∀ y ∈ ys, sc.names.lookup y = some .free
  places : js.map (fun j => N[j]?) = ys.map some
  nd : (x :: ys).Nodup

theorem relabel_free {env : Env} : ∀ {names : List (Str × NameKind)} {x : Str}, names.lookup x = some .free →
    (names.map fun (n, k) => if (k == NameKind.free && env.scope.kind == .function && env.kindOf n == some .cell) then (n, NameKind.cell) else (n, k)).lookup x = some .cell ∨
    (names.map fun (n, k) => if (k == NameKind.free && env.scope.kind == .function && env.kindOf n == some .cell) then (n, NameKind.cell) else (n, k)).lookup x = some .free
  | [], _, h => by simp at h
  | (n, k) :: r, x, h => by
    have ih := @relabel_free env r x
    rw [List.map_cons]
    show List.lookup x ((if (k == NameKind.free && env.scope.kind == .function && env.kindOf n == some .cell) = true then (n, NameKind.cell) else (n, k)) :: _) = _ ∨ List.lookup x ((if (k == NameKind.free && env.scope.kind == .function && env.kindOf n == some .cell) = true then (n, NameKind.cell) else (n, k)) :: _) = _
    cases hx : x == n with
    | true =>
      simp only [List.lookup_cons, hx] at h
      cases h
      by_cases hc : (NameKind.free == NameKind.free && env.scope.kind == .function && env.kindOf n == some .cell) = true
      · rw [if_pos hc]; exact .inl (by simp [List.lookup_cons, hx])
      · rw [if_neg hc]; exact .inr (by simp [List.lookup_cons, hx])
    | false =>
      simp only [List.lookup_cons, hx] at h
      by_cases hc : (k == NameKind.free && env.scope.kind == .function && env.kindOf n == some .cell) = true
      · rw [if_pos hc]; simp only [List.lookup_cons, hx]; exact ih h
      · rw [if_neg hc]; simp only [List.lookup_cons, hx]; exact ih h
/-- a name that the block reads through a cell is one of its free names -/
theorem relabel_back {env : Env} : ∀ {names : List (Str × NameKind)} {x : Str}, (∀ y ∈ names, y.2 ≠ .cell) →
    ((names.map fun (n, k) => if (k == NameKind.free && env.scope.kind == .function && env.kindOf n == some .cell) then (n, NameKind.cell) else (n, k)).lookup x = some .cell ∨
    (names.map fun (n, k) => if (k == NameKind.free && env.scope.kind == .function && env.kindOf n == some .cell) then (n, NameKind.cell) else (n, k)).lookup x = some .free) → (x, NameKind.free) ∈ names
  | [], _, _, h => by simp at h
  | (n, k) :: r, x, hn, h => by
    have ih := @relabel_back env r x fun y hy => hn y (List.mem_cons_of_mem _ hy)
    rw [List.map_cons] at h
    have h' : List.lookup x ((if (k == NameKind.free && env.scope.kind == .function && env.kindOf n == some .cell) = true then (n, NameKind.cell) else (n, k)) :: (r.map fun (n, k) => if (k == NameKind.free && env.scope.kind == .function && env.kindOf n == some .cell) then (n, NameKind.cell) else (n, k))) = some .cell ∨ List.lookup x ((if (k == NameKind.free && env.scope.kind == .function && env.kindOf n == some .cell) = true then (n, NameKind.cell) else (n, k)) :: (r.map fun (n, k) => if (k == NameKind.free && env.scope.kind == .function && env.kindOf n == some .cell) then (n, NameKind.cell) else (n, k))) = some .free := h
    cases hx : x == n with
    | true =>
      have e : x = n := eq_of_beq hx
      by_cases hc : (k == NameKind.free && env.scope.kind == .function && env.kindOf n == some .cell) = true
      · have hk : k = .free := by
          cases k <;> first | rfl | (simp at hc)
        rw [e, hk]; exact List.mem_cons_self
      · rw [if_neg hc] at h'
        simp only [List.lookup_cons, hx] at h'
        rcases h' with h' | h'
        · have q : k = .cell := Option.some.inj h'
          exact absurd q (hn (n, k) List.mem_cons_self)
        · have q : k = .free := Option.some.inj h'
          rw [e, q]; exact List.mem_cons_self
    | false =>
      refine List.mem_cons_of_mem _ (ih ?_)
      by_cases hc : (k == NameKind.free && env.scope.kind == .function && env.kindOf n == some .cell) = true
      · rw [if_pos hc] at h'; simp only [List.lookup_cons, hx] at h'; exact h'
      · rw [if_neg hc] at h'; simp only [List.lookup_cons, hx] at h'; exact h'

/-- the cells that a block is handed -/
theorem closure_ok {sc : Scope} {env : Env} (h : ∀ y ∈ sc.names, y.2 = .free → ∃ c, env.cells.lookup y.1 = some c) :
    ∃ cl, closureFor sc env = pure cl ∧ (∀ y c, cl.lookup y = some c → env.cells.lookup y = some c) ∧ ∀ y ∈ sc.names, y.2 = .free → ∃ c, cl.lookup y.1 = some c := by
  have go : ∀ (l : List (Str × NameKind)) (acc : List (Str × Addr)), (∀ y ∈ l, y.2 = .free → ∃ c, env.cells.lookup y.1 = some c) → (∀ y c, acc.lookup y = some c → env.cells.lookup y = some c) →
      ∃ cl, (forIn l acc fun (x : Str × NameKind) (r : List (Str × Addr)) => if x.2 == .free then (do let c ← cellOf env x.1; pure (ForInStep.yield ((x.1, c) :: r)) : Sem (ForInStep (List (Str × Addr)))) else pure (ForInStep.yield r)) = pure cl ∧
        (∀ y c, cl.lookup y = some c → env.cells.lookup y = some c) ∧ (∀ y ∈ l, y.2 = .free → ∃ c, cl.lookup y.1 = some c) ∧ ∀ y, (∃ c, acc.lookup y = some c) → ∃ c, cl.lookup y = some c := by
    intro l
    induction l with
    | nil => intro acc _ ha; exact ⟨acc, rfl, ha, (fun _ z => nomatch z), fun _ z => z⟩
    | cons p l ih =>
      intro acc hl ha
      obtain ⟨n, k⟩ := p
      by_cases hk : k = .free
      · subst hk
        obtain ⟨c, hc⟩ := hl (n, .free) List.mem_cons_self rfl
        have ha' : ∀ y d, List.lookup y ((n, c) :: acc) = some d → env.cells.lookup y = some d := fun y d e => by
          rw [List.lookup_cons] at e
          cases q : y == n with
          | true => rw [q] at e; cases e; rw [eq_of_beq q]; exact hc
          | false => rw [q] at e; exact ha y d e
        obtain ⟨cl, e, h1, h2, h3⟩ := ih ((n, c) :: acc) (fun y hy => hl y (List.mem_cons_of_mem _ hy)) ha'
        have hco : cellOf env n = pure c := by unfold cellOf; rw [hc]
        refine ⟨cl, ?_, h1, fun y hy hf => ?_, fun y hy => h3 y ?_⟩
        · rw [List.forIn_cons]
          simp only [beq_self_eq_true, if_true]
          rw [hco]
          exact e
        · rcases List.mem_cons.mp hy with rfl | hy
          · exact h3 n ⟨c, by simp [List.lookup_cons]⟩
          · exact h2 y hy hf
        · obtain ⟨d, hd⟩ := hy
          rw [List.lookup_cons]
          cases y == n with
          | true => exact ⟨c, rfl⟩
          | false => exact ⟨d, hd⟩
      · obtain ⟨cl, e, h1, h2, h3⟩ := ih acc (fun y hy => hl y (List.mem_cons_of_mem _ hy)) ha
        refine ⟨cl, ?_, h1, fun y hy hf => ?_, h3⟩
        · rw [List.forIn_cons]
          have hb : (k == NameKind.free) = false := by simpa using hk
          simp only [hb, Bool.false_eq_true, if_false]
          exact e
        · rcases List.mem_cons.mp hy with rfl | hy
          · exact absurd hf hk
          · exact h2 y hy hf
  obtain ⟨cl, e, h1, h2, _⟩ := go sc.names [] h fun _ _ z => by simp at z
  refine ⟨cl, ?_, h1, h2⟩
  unfold closureFor
  show (forIn sc.names [] _ >>= fun cs => pure cs) = pure cl
  exact (congrArg (· >>= fun cs => pure cs) e).trans rfl
end L2
namespace L2
open PySem PySem.Spec PyProof.Rows

section
variable {X : Cx} {pins : List (Addr × Obj)} {σ : St} {H : Hp} {s : Shared} {x : Str} {ys : List Str} {js : List Nat} {sc : Scope} {cl : List (Str × Addr)} {fp : List Addr}
/-- the values that a block sees: its own name's (none yet), then the outer ones at js -/
def blkSt (js : List Nat) (σ : St) (v : Option V) : St := v :: js.map fun j => σ.getD j none

theorem blk_ok (I : Inv X pins σ H s) (S : BlkScope X.env.scope X.N x ys js sc) (h1 : ∀ y c, cl.lookup y = some c → X.env.cells.lookup y = some c) (h2 : ∀ y ∈ sc.names, y.2 = .free → ∃ c, cl.lookup y.1 = some c)
    (hf : ∀ b ∈ fp, FpOk X pins H b) (hl : ∀ b ∈ fp, b < s.heap.objs.size) : (X.blk (x :: ys) sc cl s.heap.objs.size s H fp).Ok where
  mod := I.ok.mod
  kind := S.kind
  glob := I.ok.glob
  blt := I.ok.blt
  above := Nat.le_refl _
  inj := fun y z c e1 e2 => I.ok.inj y z c (h1 y c e1) (h1 z c e2)
  has := fun y hy => h2 (y, .free) (relabel_back S.nocell hy) rfl
  cab := fun y c e => nomatch e
  hd := I.ok.hd
  frames := I.ok.frames
  stk := .inl rfl
  exf := fun b hb => ⟨Nat.ne_of_lt (hl b hb), fun y c e => (hf b hb).2.2.2.2.1 y c (h1 y c e)⟩
  bs := I.bs
  bsz := Nat.le_trans I.ok.bsz I.sz
  noex := fun b o e hb => by
    rcases (hf b hb).2.2.2.1 with z | z
    · exact I.ok.noex b o e z
    · exact absurd (Nat.lt_of_lt_of_le (Heap.lt_size e) (Nat.le_trans I.ok.bsz z)) (Nat.lt_irrefl _)
  exfs := fun b hb z => by
    rcases List.mem_cons.mp (I.stkSub b z) with q | q
    · exact (hf b hb).2.1 q
    · exact (hf b hb).2.2.1 q
  funs := I.stack
  frf := I.stkFree

theorem blk_start {h' : Heap} {t' : Nat} {m : Str → Option Value} (I : Inv X pins σ H s) (S : BlkScope X.env.scope X.N x ys js sc) (h1 : ∀ y c, cl.lookup y = some c → X.env.cells.lookup y = some c) (h2 : ∀ y ∈ sc.names, y.2 = .free → ∃ c, cl.lookup y.1 = some c)
    (hf : ∀ b ∈ fp, FpOk X pins H b) (hl : ∀ b ∈ fp, b < s.heap.objs.size) (hn : h'.Ns s.heap.objs.size m) (hk : ∀ b o, s.heap.get? b = some o → h'.get? b = some o) :
    Inv (X.blk (x :: ys) sc cl s.heap.objs.size s H fp) [] (blkSt js σ none) H { s with heap := h', toks := t' } where
  ok := blk_ok I S h1 h2 hf hl
  os := rfl
  bare := I.bare
  base := Un.kept hk
  loc := ⟨m, hn, fun i y v e1 e2 e3 => by
    cases i with
    | zero => cases (show some (none : Option V) = some (some v) from e2)
    | succ i =>
      have e1 : ys[i]? = some y := e1
      have e2 : (js.map fun j => σ.getD j none)[i]? = some (some v) := e2
      rw [List.getElem?_map] at e2
      cases ej : js[i]? with
      | none => rw [ej] at e2; cases e2
      | some j =>
        rw [ej] at e2
        have e2 : σ.getD j none = some v := Option.some.inj e2
        have e4 : σ[j]? = some (some v) := by
          cases q : σ[j]? with
          | none => rw [List.getD_eq_getElem?_getD, q] at e2; cases e2
          | some u => rw [List.getD_eq_getElem?_getD, q] at e2; rw [← e2]; rfl
        have e5 : X.N[j]? = some y := by
          have q := congrArg (fun l => l[i]?) S.places
          simp only [List.getElem?_map, ej, e1, Option.map_some] at q
          exact Option.some.inj q
        have e6 : (y, NameKind.free) ∈ sc.names := PySem.mem_of_lookup (S.free y (List.mem_of_getElem? e1))
        have e7 := S.out _ e6 rfl
        obtain ⟨m0, _, hl0⟩ := I.loc
        obtain ⟨u, r, lk⟩ := hl0 j y v e5 e4 (e7.elim (fun z => .inr (.inl z)) fun z => .inr (.inr z))
        refine ⟨u, r, .inr ⟨relabel_free (S.free y (List.mem_of_getElem? e1)), ?_⟩⟩
        rcases lk with ⟨k, _⟩ | ⟨_, c, ec, z⟩
        · have k : X.env.scope.names.lookup y = some .local := k
          rcases e7 with z | z <;> (rw [k] at z; cases z)
        · obtain ⟨c', ec'⟩ := h2 _ e6 rfl
          have q := h1 _ _ ec'
          have q : X.env.cells.lookup y = some c' := q
          rw [ec] at q; cases q
          obtain ⟨o, ho, hd⟩ := z
          exact ⟨c, ec', o, hk _ _ ho, hd⟩⟩
  cell := fun y c e => by
    obtain ⟨v, o, ho, hd⟩ := I.cell y c (h1 y c e)
    exact ⟨v, o, hk _ _ ho, hd⟩
  free := I.hok.fresh (Nat.le_refl _)
  freeC := fun y c e => I.freeC y c (h1 y c e)
  pin := fun p hp => absurd (show p ∈ ([] : List (Addr × Obj)) from hp) (by simp)
  hok := I.hok.kept hk
  len := by
    show (none :: js.map fun j => σ.getD j none).length = (x :: ys).length
    have q := congrArg List.length S.places
    simp only [List.length_map] at q
    simp [q]

/-- behind the block -/
theorem blk_end {H5 : Hp} {s5 : Shared} {σ5 : St} {pl : List (Addr × Obj)} (I : Inv X pins σ H s) (hf : ∀ b ∈ fp, FpOk X pins H b) (J : Inv (X.blk (x :: ys) sc cl s.heap.objs.size s H fp) pl σ5 H5 s5) :
    Inv X pins σ H5 s5 ∧ FpOk X pins H5 s.heap.objs.size ∧ ∃ oC m, s5.heap.get? s.heap.objs.size = some oC ∧ (∀ h : Heap, h.get? s.heap.objs.size = some oC → h.Ns s.heap.objs.size m) ∧ Inv X (pins ++ [(s.heap.objs.size, oC)]) σ H5 s5 := by
  have I5 : Inv X pins σ H5 s5 := I.call' (ch := fp) J.os J.base J.hok J.bare fun b hb => ⟨(hf b hb).2.2.2.1, (hf b hb).2.1, (hf b hb).2.2.2.2.1, (hf b hb).2.2.2.2.2⟩
  have F5 : FpOk X pins H5 s.heap.objs.size := I.fpOk (Nat.le_refl _) J.free
  obtain ⟨m, ⟨o, es, ep, ho, hd, r⟩, _⟩ := J.loc
  refine ⟨I5, F5, o, m, ho, fun h e => ⟨o, es, ep, e, hd, r⟩, I5.pins_of fun p hp => ?_⟩
  rcases List.mem_append.mp hp with z | z
  · exact I5.pin p (List.mem_append_right _ z)
  · have z : p = (s.heap.objs.size, o) := by simpa using z
    subst z
    exact ⟨ho, J.free, F5.2.1, F5.2.2.1, fun v q => by rw [hd] at q; cases q⟩
end

/-- the tests of a comprehension -/
def PTs (X : Cx) (ifs : List Expr) (t : TT) : Prop :=
  ∀ (pins : List (Addr × Obj)) (s : Shared) (σ : St) (H : Hp) (Q : Bool → Hp → Prop), Inv X pins σ H s → t σ H Q →
    wpAny (model X.prog X.w) X.A (forIn ifs true fun c r => if r = true then do let ok ← isTrue c X.env (eval c X.env); pure (ForInStep.yield ok) else pure (ForInStep.yield r)) (TP X pins σ Q) X.xe s
def tAll : TT := fun _ H Q => Q true H
theorem pts_nil {X : Cx} : PTs X [] tAll := fun _ _ _ H _ I h => wpAny_tests_nil ⟨H, I, h⟩
theorem pts_one {X : Cx} {c : Expr} {t : TT} (h : PT X c t) : PTs X [c] t := fun pins s σ H Q I q => wpAny_tests_one (h pins s σ H Q I q)

/-- what a comprehension's walk wants: W the invariant by turn, measure, what is gathered so far (the list at D) -/
def CompBy (js : List Nat) (tc : TT) (te : TE) (σ : St) (J : It) (H : Hp) (Fin : Addr → Hp → Prop) : Prop :=
  ∀ D, H D = none → ∃ W : Nat → Nat → List V → Hp → Prop, (∃ m, W 0 m [] (upd H D (.lst []))) ∧ ∀ i m ys H', W i m ys H' → H' D = some (.lst ys) ∧
    ((J.stop i H' ∧ Fin D H') ∨ (J.go i H' ∧ ∃ N : List V → Hp → Prop, (∀ zs H'', N zs H'' → ∃ m', m' < m ∧ W (i + 1) m' zs H'') ∧ ∀ v H2, J.yld i H' v H2 → tc (blkSt js σ (some v)) H2 fun b H3 =>
      if b = true then te (blkSt js σ (some v)) H3 fun y H4 => H4 D = some (.lst ys) ∧ ys.length < sizeLine ∧ N (ys ++ [y]) (upd H4 D (.lst (ys ++ [y]))) else N ys H3))

section
variable {X : Cx} {pins : List (Addr × Obj)} {σ : St} {H : Hp} {s : Shared} {x : Str} {ys : List Str} {js : List Nat} {sc : Scope} {cl : List (Str × Addr)} {fp : List Addr}
theorem comp_block {elt iter : Expr} {ifs : List Expr} {px pos : Pos} {tc : TT} {te : TE} {J : It} {it : Addr} {tn : Nat → Heap → Prop} {Fin : Addr → Hp → Prop} {E : Value → Shared → Prop} {RR : Value → Addr → Result → Shared → Prop}
    (hc : X.calm = true) (I : Inv X pins σ H s) (S : BlkScope X.env.scope X.N x ys js sc) (h1 : ∀ y c, cl.lookup y = some c → X.env.cells.lookup y = some c) (h2 : ∀ y ∈ sc.names, y.2 = .free → ∃ c, cl.lookup y.1 = some c)
    (T : Turn X.prog X.w X.K (.Name x px) J fp it tn) (st : tn 0 s.heap) (hf : ∀ b ∈ fp, FpOk X pins H b)
    (ht : ∀ cl C s H ex, PTs (X.blk (x :: ys) sc cl C s H ex) ifs tc) (he : ∀ cl C s H ex, PE (X.blk (x :: ys) sc cl C s H ex) elt te)
    (hw : CompBy js tc te σ J H Fin)
    (hRR : ∀ D C oC m s5 H5, Inv X pins σ H5 s5 → FpOk X pins H5 C → s5.heap.get? C = some oC → (∀ h : Heap, h.get? C = some oC → h.Ns C m) → Inv X (pins ++ [(C, oC)]) σ H5 s5 → Fin D H5 → RR (.ref D) C (.ok .next) s5) :
    wpAny (model X.prog X.w) X.A (newList []) (fun acc s₃ => wpAny (model X.prog X.w) X.A (newFunctionEnv sc X.env.globals cl [] X.env.qual none .none (some X.env)) (fun cenv s₄ =>
      codeAny (model X.prog X.w) X.A (.compStart (.ListComp elt [⟨.Name x px, iter, ifs, 0⟩] sc pos) 0 (.ref it) acc { cenv with scope := relabel sc X.env }) (RR acc cenv.locals) s₄) E s₃) E s := by
  refine wpAny_newObj_type (wpAny_newFunctionEnv S.nocell (by intro y hy; simp at hy) (fun h₁ hns₁ hsb₁ => ?_) S.kind)
  have hD : H s.heap.objs.size = none := I.hok.fresh (Nat.le_refl _)
  have I1 : Inv X pins σ (upd H s.heap.objs.size (.lst [])) { s with heap := s.heap.push { cls := .type "list", dict := none, data := .seq ([] : List Value).toArray }, toks := s.toks } :=
    I.laid (t' := s.toks) (fun b u e => Heap.get?_push_of_some _ e) (Nat.le_refl _) ⟨Nat.zero_le _, [], 0, .nil, Heap.get?_push_size _ rfl⟩
  have hfl : ∀ b ∈ fp, b < s.heap.objs.size := fun b hb => by
    obtain ⟨o, e, _⟩ := T.obj 0 _ st b hb
    exact Heap.lt_size e
  generalize hs1 : ({ s with heap := s.heap.push { cls := .type "list", dict := none, data := .seq ([] : List Value).toArray }, toks := s.toks } : Shared) = s1 at I1
  have sz1 : s1.heap.objs.size = s.heap.objs.size + 1 := by rw [← hs1]; exact Heap.size_push _ _
  have old : ∀ b o, s.heap.get? b = some o → s1.heap.get? b = some o := fun b o e => by rw [← hs1]; exact Heap.get?_push_of_some _ e
  rw [hs1] at hns₁ hsb₁
  try rw [hs1]
  have hf1 : ∀ b ∈ fp, FpOk X pins (upd H s.heap.objs.size (.lst [])) b := fun b hb => ⟨by rw [upd_ne (Nat.ne_of_lt (hfl b hb))]; exact (hf b hb).1, (hf b hb).2⟩
  have hfl1 : ∀ b ∈ fp, b < s1.heap.objs.size := fun b hb => by rw [sz1]; exact Nat.lt_succ_of_lt (hfl b hb)
  have old1 : ∀ b o, s1.heap.get? b = some o → h₁.get? b = some o := fun b o e => hsb₁.extBut b o (Nat.ne_of_lt (Heap.lt_size e)) (Heap.get?_push_of_some _ e)
  have I2 := blk_start (t' := s1.toks + ([] : List (Str × Value)).length) I1 S h1 h2 hf1 hfl1 hns₁ old1
  have st2 : tn 0 h₁ := T.keep 0 _ _ st fun b _ o e => old1 b o (old b o e)
  obtain ⟨W, ⟨m0, w0⟩, turn⟩ := hw s.heap.objs.size hD
  have fr0 : ∀ b ∈ fp, (upd H s.heap.objs.size (.lst [])) b = none := fun b hb => (hf1 b hb).1
  -- what stays true of the iterator's objects in the block
  have stat : ∀ {H' : Hp} {pl : List (Addr × Obj)}, (∀ b ∈ fp, H' b = none) → (∀ b ∈ fp, ∀ p ∈ pl, p.1 ≠ b) → ∀ b ∈ fp, FpOk (X.blk (x :: ys) sc cl s1.heap.objs.size s1 (upd H s.heap.objs.size (.lst [])) fp) pl H' b := fun hn hp b hb =>
    ⟨hn b hb, (I2.ok.exf b hb).1, I2.ok.exfs b hb, .inl hb, (I2.ok.exf b hb).2, fun p hpp => hp b hb p (by simpa [Cx.blk] using hpp)⟩
  have loop : codeAny (model X.prog X.w) X.A (.compLoop (.ListComp elt [⟨.Name x px, iter, ifs, 0⟩] sc pos) 0 (.ref it) (.ref s.heap.objs.size) (compEnvC sc cl s1.heap.objs.size X.env)) (RR (.ref s.heap.objs.size) s1.heap.objs.size)
      { s1 with heap := h₁, toks := s1.toks + ([] : List (Str × Value)).length } := by
    refine codeAny_compLoop_tests (fun n s' => ∃ i zs H', Inv (X.blk (x :: ys) sc cl s1.heap.objs.size s1 (upd H s.heap.objs.size (.lst [])) fp) [] (blkSt js σ none) H' s' ∧ tn i s'.heap ∧ (∀ b ∈ fp, H' b = none) ∧ W i n zs H') ?_ m0 ⟨0, [], _, I2, st2, fr0, w0⟩
    rintro n s3 ⟨i, zs, H3, I3, st3, fr3, w3⟩
    obtain ⟨hD3, tr⟩ := turn i n zs H3 w3
    rcases tr with ⟨stop, fin⟩ | ⟨go, N, hN, step⟩
    · refine thn (T.done (X.blk (x :: ys) sc cl s1.heap.objs.size s1 (upd H s.heap.objs.size (.lst [])) fp) rfl rfl rfl hc i [] s3 _ H3 _ I3 (stat fr3 (fun _ _ _ z => nomatch z)) st3 stop) fun r s4 ⟨hr, I4⟩ => ?_
      subst hr
      obtain ⟨I5, F5, oC, m, ho, hns, I6⟩ := blk_end I1 hf1 I4
      exact hRR _ _ oC m _ _ I5 F5 ho hns I6 fin
    · refine thn (T.item (X.blk (x :: ys) sc cl s1.heap.objs.size s1 (upd H s.heap.objs.size (.lst [])) fp) rfl rfl rfl hc i [] s3 _ H3 _ I3 (stat fr3 (fun _ _ _ z => nomatch z)) st3 go) fun r s4 ⟨u, hr, h4⟩ => ?_
      subst hr
      show wpAny _ _ (letOwnedTupleGo (.Name x px) (.ref it) u >>= fun _ => assign (.Name x px) (compEnvC sc cl s1.heap.objs.size X.env) u) _ _ s4
      refine wpAny_bind (thn h4 fun _ s5 ⟨v, H5, I5, r5, y5, st5, fr5⟩ => ?_)
      have I5' := I5.pinned (stat fr5 (fun _ _ _ z => nomatch z)) (T.obj _ _ st5)
      refine wpAny_mono (pg_name (X := X.blk (x :: ys) sc cl s1.heap.objs.size s1 (upd H s.heap.objs.size (.lst [])) fp) (i := 0) (pos := px) S.nd rfl (.inl (lookup_relabel_local S.var)) (.inr (lookup_relabel_local S.var)) _ s5 _ H5 v u (fun σ' H' => σ' = blkSt js σ (some v) ∧ H' = H5) I5' r5 ⟨rfl, rfl⟩)
        (fun _ s6 ⟨σ6, H6, I6, e6, e7⟩ => ?_) (fun _ _ z => nomatch z)
      subst e6; subst e7
      refine wpAny_mono (ht _ _ _ _ _ _ s6 _ _ _ I6 (step v H6 y5)) (fun b s7 ⟨H7, I7, q7⟩ => ?_) (fun _ _ z => nomatch z)
      -- the turn's end
      have again : ∀ {σ8 : St} {H8 : Hp} {s8 : Shared} {zs' : List V}, Inv (X.blk (x :: ys) sc cl s1.heap.objs.size s1 (upd H s.heap.objs.size (.lst [])) fp) ([] ++ pinsAt fp s5.heap) (blkSt js σ (some v)) H8 s8 → N zs' H8 →
          ∃ m, m < n ∧ ∃ i zs H', Inv (X.blk (x :: ys) sc cl s1.heap.objs.size s1 (upd H s.heap.objs.size (.lst [])) fp) [] (blkSt js σ none) H' s8 ∧ tn i s8.heap ∧ (∀ b ∈ fp, H' b = none) ∧ W i m zs H' := by
        intro σ8 H8 s8 zs' I8 n8
        obtain ⟨m', hm, w8⟩ := hN _ _ n8
        refine ⟨m', hm, i + 1, zs', H8, (Inv.unpinned I8).weak rfl (fun k w e => ?_), T.keep _ _ _ st5 fun b hb o e => (I8.pin (b, o) (List.mem_append_right _ (List.mem_append_right _ (mem_pinsAt hb e)))).1, fun b hb => ?_, w8⟩
        · cases k with
          | zero => cases (show some (none : Option V) = some (some w) from e)
          | succ k => exact e
        · obtain ⟨o, e, d⟩ := T.obj _ _ st5 b hb
          exact (I8.pin (b, o) (List.mem_append_right _ (List.mem_append_right _ (mem_pinsAt hb e)))).2.1
      cases b with
      | false =>
        rw [if_neg Bool.false_ne_true] at q7
        rw [if_neg Bool.false_ne_true]
        exact again (σ8 := []) I7 q7
      | true =>
        rw [if_pos rfl] at q7
        rw [if_pos rfl]
        refine wpAny_mono (he _ _ _ _ _ _ s7 _ _ _ I7 q7) (fun u8 s8 ⟨y8, H8, I8, r8, hD8, hz8, q8⟩ => ?_) (fun _ _ z => nomatch z)
        refine wpAny_mono (mt_append (X := X.blk (x :: ys) sc cl s1.heap.objs.size s1 (upd H s.heap.objs.size (.lst [])) fp) _ s8 _ H8 (.ref s.heap.objs.size) [y8] (.ref s.heap.objs.size) [u8] (fun _ H9 => H9 = upd H8 s.heap.objs.size (.lst (zs ++ [y8]))) I8 rfl (.cons r8 .nil)
          ⟨_, zs, y8, rfl, rfl, hD8, hz8, rfl⟩) (fun _ s9 ⟨_, H9, I9, _, e9⟩ => ?_) (fun _ _ z => nomatch z)
        subst e9
        exact again (σ8 := []) I9 q8
  exact codeAny_compStart_list loop (T.self X.A 0 _ _ _ st2 loop)
end

/-- [elt for x in iter if ..] -/
def tComp (wi : TI) (js : List Nat) (tc : TT) (te : TE) : TE := fun σ H Q => wi σ H fun J H1 => CompBy js tc te σ J H1 fun D H2 => Q (.ref D) H2
/-- y = [elt for x in iter if ..], the stores exchanged -/
def tSetC (i : Nat) (wi : TI) (js : List Nat) (tc : TT) (te : TE) : TS := fun D σ H => wi σ H fun J H1 => CompBy js tc te σ J H1 fun a H2 => D.nx (σ.set i (some (.ref a))) H2
section
variable {X : Cx} {elt iter : Expr} {x : Str} {ys : List Str} {js : List Nat} {sc : Scope} {ifs : List Expr} {px pos : Pos} {wi : TI} {tc : TT} {te : TE}
theorem blk_cells {pins : List (Addr × Obj)} {σ : St} {H : Hp} {s : Shared} (I : Inv X pins σ H s) (S : BlkScope X.env.scope X.N x ys js sc) : ∀ y ∈ sc.names, y.2 = .free → ∃ c, X.env.cells.lookup y.1 = some c := fun y hy hf => I.ok.has y.1 (S.out y hy hf)
theorem pe_comp (S : BlkScope X.env.scope X.N x ys js sc) (hc : X.calm = true) (hi : PI X (.Name x px) iter wi) (ht : ∀ cl C s H ex, PTs (X.blk (x :: ys) sc cl C s H ex) ifs tc) (he : ∀ cl C s H ex, PE (X.blk (x :: ys) sc cl C s H ex) elt te)
    (hs : ∀ v, foldedSetIterable iter X.env v = pure v := by intro _; rfl) : PE X (.ListComp elt [⟨.Name x px, iter, ifs, 0⟩] sc pos) (tComp wi js tc te) := by
  intro pins s σ H Q I h
  obtain ⟨cl, ecl, h1, h2⟩ := closure_ok (blk_cells I S)
  rw [eval_ListComp]
  refine wpAny_comprehension_free (use := none) rfl hs ecl S.kind S.loc (thn (hi pins s σ H _ I h) fun v s1 hv => thn hv fun itv s2 h2' => ?_)
  obtain ⟨it, fp, tn, J, H2, e, I2, T, st2, f2, q2⟩ := h2'
  subst e
  refine comp_block (RR := fun acc C => compPost (model X.prog X.w) X.A X.xe none (EP X pins σ Q) acc C) hc I2 S h1 h2 T st2 f2 ht he q2 ?_
  intro D C oC m s5 H5 I5 F5 ho hns I6 fin
  refine ⟨m, hns _ ho, fun h' hs' => ⟨.ref D, H5, ?_, rfl, fin⟩⟩
  exact I5.turned (t' := s5.toks) (fun b o hb e => hs'.extBut b o hb e) F5.1 F5.2.1 F5.2.2.2.1 F5.2.2.2.2.1 F5.2.2.2.2.2
theorem ps_setC {i : Nat} {y : Str} {py spos : Pos} (hN : X.N.Nodup) (hiN : X.N[i]? = some y) (hy : X.env.scope.names.lookup y = some .local) (S : BlkScope X.env.scope X.N x ys js sc) (hc : X.calm = true) (hi : PI X (.Name x px) iter wi)
    (ht : ∀ cl C s H ex, PTs (X.blk (x :: ys) sc cl C s H ex) ifs tc) (he : ∀ cl C s H ex, PE (X.blk (x :: ys) sc cl C s H ex) elt te)
    (hsw : swapsWith (.ListComp elt [⟨.Name x px, iter, ifs, 0⟩] sc pos) (some (.Name y py)) spos.line X.env = pure true := by rfl)
    (hs : ∀ v, foldedSetIterable iter X.env v = pure v := by intro _; rfl) : PS X (.Assign [.Name y py] (.ListComp elt [⟨.Name x px, iter, ifs, 0⟩] sc pos) spos) (tSetC i wi js tc te) := by
  intro pins s σ H D I h
  obtain ⟨cl, ecl, h1, h2⟩ := closure_ok (blk_cells I S)
  rw [exec_Assign_Name_used _ _ _ _ hsw]
  refine wpAny_bind (wpAny_standAt (wpAny_bind ?_))
  show wpAny _ X.A (do let _ ← comprehension (.ListComp elt [⟨.Name x px, iter, ifs, 0⟩] sc pos) sc X.env _ (newList []) false (eval iter X.env) (some (assign (.Name y py) X.env))) _ _ s
  refine wpAny_bind (wpAny_mono (wpAny_comprehension_free (use := some (assign (.Name y py) X.env)) (Q := fun _ s' => SP X pins D .next s') rfl hs ecl S.kind S.loc (thn (hi pins s σ H _ I h) fun v s1 hv => thn hv fun itv s2 h2' => ?_))
    (fun _ s' hq => wpAny_pure (wpAny_pure hq)) fun _ _ e => e)
  obtain ⟨it, fp, tn, J, H2, e, I2, T, st2, f2, q2⟩ := h2'
  subst e
  refine comp_block (RR := fun acc C => compPost (model X.prog X.w) X.A X.xe (some (assign (.Name y py) X.env)) (fun _ s' => SP X pins D .next s') acc C) hc I2 S h1 h2 T st2 f2 ht he q2 ?_
  intro a C oC m s5 H5 I5 F5 ho hns I6 fin
  show wpAny _ X.A (assign (.Name y py) X.env (.ref a)) _ _ s5
  refine wpAny_mono (pg_name (X := X) (i := i) (pos := py) hN hiN (.inl hy) (.inr hy) _ s5 σ H5 (.ref a) (.ref a) (fun σ' H' => σ' = σ.set i (some (.ref a)) ∧ H' = H5) I6 rfl ⟨rfl, rfl⟩) (fun _ s6 ⟨σ6, H6, I7, e6, e7⟩ => ?_) fun _ _ e => e
  subst e6; subst e7
  have hC6 : s6.heap.get? C = some oC := (I7.pin (C, oC) (List.mem_append_right _ (List.mem_append_right _ (by simp)))).1
  refine ⟨m, hns _ hC6, fun h' hs' => ⟨_, H6, ?_, fin⟩⟩
  exact (Inv.unpinned I7).turned (t' := s6.toks) (fun b o hb e => hs'.extBut b o hb e) F5.1 F5.2.1 F5.2.2.2.1 F5.2.2.2.2.1 F5.2.2.2.2.2
end

end L2
namespace L2
open PySem PySem.Spec PyProof.Rows

def TupKeep (H H' : Hp) : Prop := ∀ b xs, H b = some (.tup xs) → H' b = some (.tup xs)
theorem Same.tk {H H' : Hp} (s : Same H H') : TupKeep H H' := fun b xs e => s b _ e
theorem TupKeep.trans {H H1 H2 : Hp} (a : TupKeep H H1) (b : TupKeep H1 H2) : TupKeep H H2 := fun c xs e => b c xs (a c xs e)
theorem TupKeep.upd {H : Hp} {D : Addr} {o : HO} (h : ∀ xs, H D ≠ some (.tup xs)) : TupKeep H (upd H D o) := fun b xs e => by
  rw [upd_ne (by rintro rfl; exact h xs e)]; exact e
theorem Same.upd {H H' : Hp} {D : Addr} {o : HO} (s : Same H H') (h : H D = none) : Same H (upd H' D o) := fun b u e => by
  rw [upd_ne (by rintro rfl; rw [h] at e; cases e)]; exact s b u e
theorem Same.new {H : Hp} {D : Addr} {o : HO} (h : H D = none) : Same H (L2.upd H D o) := Same.upd (Same.refl H) h
theorem Same.seqT {K : PySem.W.Frag} {H H' : Hp} {a : Addr} {xs : List V} (e : Same H H') (h : SqT K H a xs) : SqT K H' a xs := by
  rcases h with (h | ⟨o, h⟩) | h
  · exact .inl (.inl (e _ _ h))
  · exact .inl (.inr ⟨o, e _ _ h⟩)
  · exact .inr h

theorem prd_append {α β : Type} {R : α → β → Prop} : ∀ {a a' : List α} {b b' : List β}, Paired R a b → Paired R a' b' → Paired R (a ++ a') (b ++ b')
  | _, _, _, _, .nil, q => q
  | _, _, _, _, .cons r t, q => .cons r (prd_append t q)
theorem prd_len {α β : Type} {R : α → β → Prop} : ∀ {a : List α} {b : List β}, Paired R a b → a.length = b.length
  | _, _, .nil => rfl
  | _, _, .cons _ t => congrArg (· + 1) (prd_len t)
theorem prd_get {α β : Type} {R : α → β → Prop} : ∀ {a : List α} {b : List β} {i : Nat} {y : β}, Paired R a b → b[i]? = some y → ∃ x, a[i]? = some x ∧ R x y
  | _, _, _, _, .nil, e => by simp at e
  | _, _, 0, _, .cons r _, e => by simp at e; subst e; exact ⟨_, rfl, r⟩
  | _, _, i + 1, y, .cons _ t, e => by
    obtain ⟨x, h1, h2⟩ := prd_get (i := i) (y := y) t (by simpa using e)
    exact ⟨x, by simpa using h1, h2⟩
theorem prd_imp {α β : Type} {R S : α → β → Prop} (f : ∀ x y, R x y → S x y) : ∀ {a : List α} {b : List β}, Paired R a b → Paired S a b
  | _, _, .nil => .nil
  | _, _, .cons r t => .cons (f _ _ r) (prd_imp f t)
theorem prd_map {α β : Type} {g : β → α} : ∀ {a : List α} {b : List β}, Paired (fun x y => x = g y) a b → a = b.map g
  | _, _, .nil => rfl
  | _, _, .cons r t => by rw [r, prd_map t]; rfl
theorem comp_grow {α β : Type} {js : List Nat} {tc : TT} {te : TE} {σ : St} {H : Hp} {Fin : Addr → Hp → Prop} {J : It} (bs : List β) (val : β → V) (p : β → Bool) (f : β → α) (R : Hp → V → α → Prop)
    (mono : ∀ H1 H2 v c, TupKeep H1 H2 → R H1 v c → R H2 v c)
    (hJ : ∀ H', Same H H' → (∀ i b, bs[i]? = some b → J.go i H' ∧ ∀ v H2, J.yld i H' v H2 → v = val b ∧ H2 = H') ∧ J.stop bs.length H')
    (ht : ∀ b H', b ∈ bs → Same H H' → ∀ Q2 : Bool → Hp → Prop, (∀ H3, Same H' H3 → Q2 (p b) H3) → tc (blkSt js σ (some (val b))) H' Q2)
    (he : ∀ b H', b ∈ bs → p b = true → Same H H' → ∀ Q2 : VK, (∀ y H4, Same H' H4 → R H4 y (f b) → Q2 y H4) → te (blkSt js σ (some (val b))) H' Q2)
    (hn : bs.length ≤ sizeLine)
    (hd : ∀ D ws H', H D = none → Same H H' → H' D = some (.lst ws) → Paired (R H') ws ((bs.filter p).map f) → Fin D H') : CompBy js tc te σ J H Fin := by
  intro D hD
  have tkeep : ∀ {H4 : Hp} {ys zs : List V}, H4 D = some (.lst ys) → TupKeep H4 (upd H4 D (.lst zs)) := fun e => TupKeep.upd fun xs z => by rw [e] at z; cases z
  let Pv : Nat → List V → Hp → Prop := fun i ys H' => Same H H' ∧ H' D = some (.lst ys) ∧ Paired (R H') ys (((bs.take i).filter p).map f)
  refine ⟨fun i m ys H' => m = bs.length - i ∧ i ≤ bs.length ∧ Pv i ys H', ⟨bs.length, by simp, Nat.zero_le _, Same.new hD, upd_same, by simpa using Paired.nil⟩, ?_⟩
  rintro i m ys H' ⟨rfl, hi, sm, hL, pr⟩
  refine ⟨hL, ?_⟩
  by_cases hlt : i < bs.length
  · have hx : bs[i]? = some bs[i] := by simp [hlt]
    have hmem : bs[i] ∈ bs := List.getElem_mem hlt
    have htake : bs.take (i + 1) = bs.take i ++ [bs[i]] := by rw [List.take_add_one, hx]; rfl
    obtain ⟨g1, g2⟩ := (hJ H' sm).1 i _ hx
    have hyl : ys.length ≤ i := by
      have e := prd_len pr
      rw [List.length_map] at e
      have e2 := List.length_filter_le p (bs.take i)
      rw [List.length_take] at e2
      omega
    refine .inr ⟨g1, Pv (i + 1), fun zs H'' p' => ⟨bs.length - (i + 1), by omega, rfl, hlt, p'⟩, fun v H2 y => ?_⟩
    obtain ⟨e, y'⟩ := g2 v H2 y
    subst e; subst y'
    refine ht _ _ hmem sm _ fun H3 s3 => ?_
    have sm3 : Same H H3 := sm.trans s3
    have pr3 : Paired (R H3) ys (((bs.take i).filter p).map f) := prd_imp (fun x y r => mono _ _ _ _ s3.tk r) pr
    refine if2 (fun hp => ?_) (fun hp => ?_)
    · refine he _ _ hmem hp sm3 _ fun y4 H4 s4 r4 => ?_
      have hL4 : H4 D = some (.lst ys) := s4 _ _ (s3 _ _ hL)
      refine ⟨hL4, by omega, (sm3.trans s4).upd hD, upd_same, ?_⟩
      rw [htake, List.filter_append, List.map_append]
      have e1 : List.filter p [bs[i]] = [bs[i]] := by simp [hp]
      rw [e1]
      refine prd_append (prd_imp (fun x y r => mono _ _ _ _ (s4.tk.trans (tkeep hL4)) r) pr3) (.cons (mono _ _ _ _ (tkeep hL4) r4) .nil)
    · refine ⟨sm3, s3 _ _ hL, ?_⟩
      rw [htake, List.filter_append, List.map_append]
      have e1 : List.filter p [bs[i]] = [] := by simp [hp]
      rw [e1]
      simpa using pr3
  · have e : i = bs.length := by omega
    subst e
    refine .inl ⟨(hJ H' sm).2, hd D ys H' hD sm hL ?_⟩
    rwa [List.take_length] at pr
theorem it_range (H : Hp) (lo : Int) (n : Nat) : ∀ H', Same H H' → (∀ i b, ((List.range n).map fun (i : Nat) => lo + (i : Int))[i]? = some b → (Itr lo n).go i H' ∧ ∀ v H2, (Itr lo n).yld i H' v H2 → v = V.int b ∧ H2 = H') ∧ (Itr lo n).stop ((List.range n).map fun (i : Nat) => lo + (i : Int)).length H' := by
  intro H' _
  refine ⟨fun i b e => ?_, by show n ≤ _; simp⟩
  rw [List.getElem?_map] at e
  by_cases hi : i < n
  · rw [List.getElem?_range hi] at e
    have e : lo + (i : Int) = b := Option.some.inj e
    refine ⟨hi, fun v H2 y => ⟨?_, y.1⟩⟩
    rw [y.2, e]
  · rw [List.getElem?_eq_none (by simpa using hi)] at e
    cases e
theorem it_tup {K : PySem.W.Frag} {H : Hp} {a : Addr} {β : Type} (bs : List β) (val : β → V) (h : SqT K H a (bs.map val)) : ∀ H', Same H H' → (∀ i b, bs[i]? = some b → (Itt K a).go i H' ∧ ∀ v H2, (Itt K a).yld i H' v H2 → v = val b ∧ H2 = H') ∧ (Itt K a).stop bs.length H' := by
  intro H' sm
  have h' := sm.seqT h
  have e1 : ∀ i b, bs[i]? = some b → (bs.map val)[i]? = some (val b) := fun i b e => by rw [List.getElem?_map, e]; rfl
  refine ⟨fun i b e => ⟨⟨_, _, h', e1 i b e⟩, fun v H2 y => ⟨?_, y.1⟩⟩, ⟨_, h', by simp⟩⟩
  have q := y.2 _ h'
  rw [e1 i b e] at q
  exact (Option.some.inj q).symm
theorem it_list {K : PySem.W.Frag} {H : Hp} {a : Addr} {β : Type} (bs : List β) (val : β → V) (h : SqL K H a (bs.map val)) : ∀ H', Same H H' → (∀ i b, bs[i]? = some b → (Itl K a).go i H' ∧ ∀ v H2, (Itl K a).yld i H' v H2 → v = val b ∧ H2 = H') ∧ (Itl K a).stop bs.length H' := by
  intro H' sm
  have h' := sm.seq h
  have e1 : ∀ i b, bs[i]? = some b → (bs.map val)[i]? = some (val b) := fun i b e => by rw [List.getElem?_map, e]; rfl
  refine ⟨fun i b e => ⟨⟨_, _, h', e1 i b e⟩, fun v H2 y => ⟨?_, y.1⟩⟩, ⟨_, h', by simp⟩⟩
  have q := y.2 _ h'
  rw [e1 i b e] at q
  exact (Option.some.inj q).symm
end L2
namespace STab
open PySem PySem.SetTable

/-- the places rise -/
def Srt (xs : Array Nat) : Prop := ∀ i j (hi : i < j) (hj : j < xs.size), xs[i]'(Nat.lt_trans hi hj) < xs[j]
theorem below_go {xs : Array Nat} (j : Nat) : ∀ (fuel lo hi : Nat), hi - lo ≤ fuel → lo ≤ hi → hi ≤ xs.size → Srt xs →
    (∀ i (h : i < xs.size), i < lo → xs[i] < j) → (∀ i (h : i < xs.size), hi ≤ i → j ≤ xs[i]) →
    lo ≤ below.go xs j fuel lo hi ∧ below.go xs j fuel lo hi ≤ hi ∧ (∀ i (h : i < xs.size), i < below.go xs j fuel lo hi → xs[i] < j) ∧ (∀ i (h : i < xs.size), below.go xs j fuel lo hi ≤ i → j ≤ xs[i])
  | 0, lo, hi, hf, hl, hs, _, h1, h2 => by
    have e : lo = hi := by omega
    subst e
    exact ⟨Nat.le_refl _, Nat.le_refl _, h1, h2⟩
  | fuel + 1, lo, hi, hf, hl, hs, srt, h1, h2 => by
    unfold below.go
    by_cases hlt : lo < hi
    · rw [if_pos hlt]
      have hm : (lo + hi) / 2 < xs.size := by omega
      have hd : xs.getD ((lo + hi) / 2) j = xs[(lo + hi) / 2] := by simp [Array.getD, hm]
      simp only [hd]
      by_cases hx : xs[(lo + hi) / 2] < j
      · rw [if_pos hx]
        have r := below_go j fuel ((lo + hi) / 2 + 1) hi (by omega) (by omega) hs srt (fun i h hi' => by
          by_cases e : i = (lo + hi) / 2
          · subst e; exact hx
          · exact Nat.lt_trans (srt i ((lo + hi) / 2) (by omega) hm) hx) h2
        exact ⟨by omega, r.2.1, r.2.2.1, r.2.2.2⟩
      · rw [if_neg hx]
        have r := below_go j fuel lo ((lo + hi) / 2) (by omega) (by omega) (by omega) srt h1 (fun i h hi' => by
          by_cases e : i = (lo + hi) / 2
          · subst e; exact Nat.le_of_not_lt hx
          · exact Nat.le_trans (Nat.le_of_not_lt hx) (Nat.le_of_lt (srt ((lo + hi) / 2) i (by omega) h)))
        exact ⟨r.1, by omega, r.2.2.1, r.2.2.2⟩
    · rw [if_neg hlt]
      have e : lo = hi := by omega
      subst e
      exact ⟨Nat.le_refl _, Nat.le_refl _, h1, h2⟩
theorem below_spec {xs : Array Nat} (srt : Srt xs) (j : Nat) : below xs j ≤ xs.size ∧ (∀ i (h : i < xs.size), i < below xs j → xs[i] < j) ∧ (∀ i (h : i < xs.size), below xs j ≤ i → j ≤ xs[i]) := by
  have r := below_go j xs.size 0 xs.size (by omega) (Nat.zero_le _) (Nat.le_refl _) srt (fun i h hi => absurd hi (Nat.not_lt_zero _)) (fun i h hi => absurd h (Nat.not_lt.mpr hi))
  exact ⟨r.2.1, r.2.2.1, r.2.2.2⟩
/-- the place that follows the i-th one -/
theorem below_next {xs : Array Nat} (srt : Srt xs) {i : Nat} (h : i < xs.size) : below xs (xs[i] + 1) = i + 1 := by
  obtain ⟨a, b, c⟩ := below_spec srt (xs[i] + 1)
  apply Nat.le_antisymm
  · apply Nat.le_of_not_lt
    intro q
    have hz : i + 1 < xs.size := Nat.lt_of_lt_of_le q a
    have := b (i + 1) hz q
    have := srt i (i + 1) (Nat.lt_succ_self _) hz
    omega
  · apply Nat.le_of_not_lt
    intro q
    have := c i h (by omega)
    omega
theorem below_zero {xs : Array Nat} (srt : Srt xs) : below xs 0 = 0 := by
  obtain ⟨a, b, c⟩ := below_spec srt 0
  apply Nat.eq_zero_of_not_pos
  intro q
  have := b 0 (by omega) q
  omega
/-- what every table of the call's own sets has -/
structure Tb (t : SetTable) (led : Bool) : Prop where
  dm : t.dummies = #[]
  srt : Srt t.place
  ld : t.led = led
end STab
namespace STab
open PySem

/-- the int that an element is -/
def ikey (e : Int × Value) : Int := match e.2 with
  | .int k _ => k
  | _ => 0
section
variable {prog : Program} {w : World} {A : Around} {E : Value → Shared → Prop} {s : Shared} {a : Addr}
/-- a set of ints: its members, each once -/
def SetI (prog : Program) (w : World) (h : Heap) (a : Addr) (led : Bool) (ks : List Int) : Prop :=
  ∃ (o : Obj) (es : Array (Int × Value)) (ep : Nat) (t : SetTable), h.get? a = some o ∧ o.ExactSet ∧ o.data = .set es ep t ∧ ElemsOf (intKind prog w) es.toList ∧ es.size < scanBound ∧ t.fits es.size = true ∧ Tb t led ∧ (es.toList.map ikey).Perm ks
theorem SetI.keep {h h' : Heap} {led : Bool} {ks : List Int} (x : SetI prog w h a led ks) (k : ∀ o, h.get? a = some o → h'.get? a = some o) : SetI prog w h' a led ks := by
  obtain ⟨o, es, ep, t, ho, r⟩ := x
  exact ⟨o, es, ep, t, k o ho, r⟩
theorem SetI.typeIs {led : Bool} {ks : List Int} (x : SetI prog w s.heap a led ks) : s.TypeIs (.ref a) "set" := by
  obtain ⟨o, es, ep, t, ho, hx, _⟩ := x
  exact ⟨o, ho, hx.1⟩
end
end STab
namespace STab
open PySem PyProof.Rows

section
variable {prog : Program} {w : World} {A : Around} {E : Value → Shared → Prop} {s : Shared}
/-- how the world orders sets -/
abbrev ledIn (w : World) : Bool := !(w.params.followText "set-order")
end
end STab
namespace STab
open PySem PyProof.Rows

theorem slot_si_next : Slot "set_iterator" "__next__" "set_iterator.__next__" :=
  .of (owner := "set_iterator") (n := "__next__") (by rw [typeLookup_type, builtinLookup_eq_fast]; kernel_rfl) (by decide +kernel) (by decide +kernel) (by decide +kernel) (by first | exact .inl (by decide +kernel) | exact .inr (by decide +kernel)) (by rw [isSubtype_type]; kernel_rfl)
theorem entry_si_next : entryFor table "set_iterator.__next__" = some Builtin.«set_iterator.__next__» := entryFor_of_tree (by kernel_rfl)
theorem args_si_next (a : Value) : argsOk "set_iterator.__next__" ⟨[a], []⟩ := by
  unfold argsOk
  kernel_rfl
theorem entry_s_iter : entryFor table "set.__iter__" = some Builtin.«frozenset.__iter__» :=
  entryFor_alias (id' := "frozenset.__iter__") (by kernel_rfl) rfl (by decide +kernel) (by kernel_rfl)

section
variable {prog : Program} {w : World} {A : Around} {E : Value → Shared → Prop} {s : Shared}
theorem choose_ok {M : Model} {src : Source} {n : Nat} {Q : Nat → Shared → Prop} (hn : n ≠ 0) (h : ∀ k d, k < n → Q k { s with drawn := d }) : wpAny M A (choose src n) Q E s :=
  fun _ _ _ => ⟨hn, h _ _ (Nat.mod_lt _ (Nat.pos_of_ne_zero hn))⟩
theorem perm_pick {α : Type} {xs : List α} {k : Nat} {x : α} (h : xs[k]? = some x) : (x :: xs.eraseIdx k).Perm xs := by
  induction xs generalizing k with
  | nil => simp at h
  | cons y ys ih =>
    cases k with
    | zero =>
      have e : y = x := by simpa using h
      subst e
      simp
    | succ k =>
      have e := ih (k := k) (by simpa using h)
      rw [List.eraseIdx_cons_succ]
      exact (List.Perm.swap y x _).trans (e.cons y)
theorem draw_perm {α : Type} {M : Model} {Q : List α → Shared → Prop} : ∀ (n : Nat) (xs : List α) (s : Shared), xs.length = n → (∀ ys d, ys.Perm xs → Q ys { s with drawn := d }) → wpAny M A (drawOrder n xs) Q E s
  | 0, xs, s, hn, h => by
    have e : xs = [] := List.length_eq_zero_iff.mp hn
    subst e
    unfold drawOrder
    exact wpAny_pure (h [] s.drawn (List.Perm.refl _))
  | n + 1, xs, s, hn, h => by
    cases xs with
    | nil => simp at hn
    | cons y ys =>
      unfold drawOrder
      refine wpAny_bind (choose_ok (by simp) fun k d hk => ?_)
      have hx : (y :: ys)[k]? = some (y :: ys)[k] := by simp
      rw [hx]
      refine wpAny_bind (draw_perm n _ { s with drawn := d } ?_ fun zs d' pz => wpAny_pure ?_)
      · rw [List.length_eraseIdx, if_pos hk]
        simp only [List.length_cons] at hn ⊢
        omega
      · exact h _ d' ((pz.cons _).trans (perm_pick hx))
theorem pick_go {α : Type} (next : Nat → Nat) : ∀ (fuel k : Nat) (left : List α) (out : Array α), left.length ≤ fuel → (pickOrder.go next fuel k left out).toList.Perm (out.toList ++ left)
  | 0, k, left, out, h => by
    have e : left = [] := List.length_eq_zero_iff.mp (by omega)
    subst e
    unfold pickOrder.go
    simp
  | fuel + 1, k, left, out, h => by
    unfold pickOrder.go
    cases left with
    | nil => simp
    | cons y ys =>
      have hlt : next k % (y :: ys).length < (y :: ys).length := Nat.mod_lt _ (by simp)
      have hx : (y :: ys)[next k % (y :: ys).length]? = some (y :: ys)[next k % (y :: ys).length] := List.getElem?_eq_getElem hlt
      rw [hx]
      have ih := pick_go next fuel (k + 1) ((y :: ys).eraseIdx (next k % (y :: ys).length)) (out.push (y :: ys)[next k % (y :: ys).length]) (by rw [List.length_eraseIdx, if_pos hlt]; simp only [List.length_cons] at h ⊢; omega)
      refine ih.trans ?_
      rw [Array.toList_push, List.append_assoc]
      exact (List.Perm.refl _).append (perm_pick hx)
theorem pick_perm {α : Type} (next : Nat → Nat) (xs : Array α) : (pickOrder next xs).toList.Perm xs.toList := by
  have h := pick_go next xs.size 0 xs.toList #[] (by simp)
  simpa [pickOrder] using h
end
end STab
namespace STab
open PySem PyProof.Rows
section
variable {prog : Program} {w : World} {A : Around} {E : Value → Shared → Prop} {s : Shared} {a : Addr} {o : Obj} {es : Array (Int × Value)} {ep : Nat} {t : SetTable}
theorem byText_ok {Q : Bool → Shared → Prop} (h : Q (w.params.followText "set-order") s) : wpAny (model prog w) A setsByText Q E s := by
  unfold setsByText
  exact wpAny_bind (wpAny_askSetting (wpAny_pure h))
theorem setDrawn_ok {Q : Bool → Shared → Prop} (ho : s.heap.get? a = some o) (hd : o.data = .set es ep t) (hf : t.fits es.size = true) (h : Q (!(w.params.followText "set-order") && (!t.plain && decide (es.size > 1))) s) :
    wpAny (model prog w) A (setDrawn a) Q E s := by
  unfold setDrawn
  exact wpAny_bind (wpAny_setState_of ho hd hf (wpAny_bind (byText_ok (wpAny_pure h))))
theorem next_text {Q : Option (Value × Nat) → Shared → Prop} (slot i : Nat) (ho : s.heap.get? a = some o) (hd : o.data = .set es ep t) (hf : t.fits es.size = true) (hb : w.params.followText "set-order" = true)
    (h : Q (((pickOrder (w.params.setOrder a ep) es)[i]?).map fun e => (e.2, slot)) s) : wpAny (model prog w) A (setNext a slot i ep) Q E s := by
  unfold setNext
  refine wpAny_bind (wpAny_setState_of ho hd hf (wpAny_bind (byText_ok ?_)))
  rw [hb]
  simp only [if_true, bne_self_eq_false, Bool.false_eq_true, if_false]
  refine wpAny_bind ?_
  unfold setWalk
  refine wpAny_bind (wpAny_setState_of ho hd hf (wpAny_bind (byText_ok ?_)))
  rw [hb]
  simp only [if_true]
  exact wpAny_bind (wpAny_askSetting (wpAny_pure (wpAny_pure h)))
theorem next_place {Q : Option (Value × Nat) → Shared → Prop} (slot i : Nat) (ho : s.heap.get? a = some o) (hd : o.data = .set es ep t) (hf : t.fits es.size = true) (hb : w.params.followText "set-order" = false) (hl : t.led = true)
    (hp : (!t.plain && decide (es.size > 1)) = false)
    (h : Q (match es[SetTable.below t.place slot]?, t.place[SetTable.below t.place slot]? with | some (_, x), some j => some (x, j + 1) | _, _ => none) s) : wpAny (model prog w) A (setNext a slot i ep) Q E s := by
  unfold setNext
  refine wpAny_bind (wpAny_setState_of ho hd hf (wpAny_bind (byText_ok ?_)))
  rw [hb]
  simp only [Bool.false_eq_true, if_false]
  show wpAny _ _ (if (!t.plain && decide (es.size > 1)) = true then _ else _) _ _ s
  rw [hp, if_neg Bool.false_ne_true]
  refine wpAny_bind (m := (if (!t.led && !es.isEmpty) = true then unsupported "set:maker-not-led" else pure () : Sem Unit)) ?_
  rw [hl]
  exact wpAny_pure (wpAny_pure h)
theorem nextDrawn_ok {Q : Value → Shared → Prop} {i : Nat} {e : Int × Value} (ho : s.heap.get? a = some o) (hd : o.data = .set es ep t) (hf : t.fits es.size = true) (he : es[i]? = some e) (h : Q e.2 s) : wpAny (model prog w) A (setNextDrawn a i ep) Q E s := by
  unfold setNextDrawn
  refine wpAny_bind (wpAny_setState_of ho hd hf ?_)
  simp only [bne_self_eq_false, Bool.false_eq_true, if_false, he]
  exact wpAny_pure h

/-- the walker's record -/
def SiObj (first : Value) (i S n ep : Nat) : Obj := { cls := .type "set_iterator", data := .fields #[first, rawInt i, .ref S, rawInt n, rawInt ep] }
/-- the turn by a slot -/
theorem si_int {I S : Addr} {slot i : Nat} {Q : Option Value → Shared → Prop} (hI : s.heap.get? I = some (SiObj (rawInt slot) i S es.size ep)) (ho : s.heap.get? S = some o) (hd : o.data = .set es ep t) (hf : t.fits es.size = true)
    (h : wpAny (model prog w) A.in1 (setNext S slot i ep >>= fun r => match r with
            | some (x, next) => setField (.ref I) 0 (.int (next : Nat) 0) >>= fun _ => setField (.ref I) 1 (.int ((i : Int) + 1) 0) >>= fun _ => ret x
            | none => setField (.ref I) 2 .none >>= fun _ => newExc (.type "StopIteration") [] >>= fun x => raiseNew x : Sem Fin)
      (fun fin s' => ∃ r, fin = .done (.ret r) ∧ Q (some r) s') (fun e s' => wpAny (model prog w) A (isInstance e (.type "StopIteration") >>= fun b => if b = true then pure none else throw e) Q E s') s) :
    wpAny (model prog w) A (pyNext (.ref I)) Q E s := by
  have ty : s.TypeIs (.ref I) "set_iterator" := ⟨_, hI, rfl⟩
  unfold pyNext
  refine wpAny_bind (wpAny_attempt (wpAny_callSpecial?_slot (name := Str.ofString "__next__") ty slot_si_next (wpAny_call_entry slot_si_next ty entry_si_next ?_ (args_si_next _))))
  unfold Builtin.«set_iterator.__next__»
  refine wpAny_bind (m := slotArgs "__next__" 0 ⟨[.ref I], []⟩) (wpAny_pure ?_)
  refine wpAny_bind (wpAny_fieldsOf hI rfl ?_)
  simp only [rawInt]
  refine wpAny_bind (wpAny_setEntries_of ho hd hf ?_)
  simp only [bne_self_eq_false, Bool.false_eq_true, if_false, Int.toNat_natCast]
  refine wpAny_mono h (fun fin s' hq => ?_) fun e s' hq => hq
  obtain ⟨r, e, q⟩ := hq
  exact ⟨r, e, wpAny_pure q⟩
/-- the walker says that it is through -/
theorem stop_ok {Q : Option Value → Shared → Prop} (calm : A.handled = none) (h : ∀ h', (∀ b ob, s.heap.get? b = some ob → h'.get? b = some ob) → Q none { s with heap := h' }) :
    wpAny (model prog w) A.in1 (newExc (.type "StopIteration") [] >>= fun x => raiseNew x : Sem Fin) (fun fin s' => ∃ r, fin = .done (.ret r) ∧ Q (some r) s')
      (fun e s' => wpAny (model prog w) A (isInstance e (.type "StopIteration") >>= fun b => if b = true then pure none else throw e) Q E s') s := by
  refine wpAny_bind ?_
  simp only [newExc, newTuple]
  refine wpAny_bind (wpAny_newObj_type ?_ (by size_fits))
  refine wpAny_bind (m := firstArgMember _ _) (wpAny_of_eq (a := Value.none) (by first | rfl | (simp only [firstArgMember]; rfl)) (wpAny_newObj_type ?_ (by size_fits)))
  simp only [raiseNew]
  refine wpAny_bind (wpAny_handled ?_)
  have c1 : A.in1.handled = none := calm
  rw [c1]
  refine wpAny_bind (wpAny_pure (wpAny_throw ?_))
  refine wpAny_bind (wpAny_isInstance (T := "StopIteration") (b := true) ⟨_, Heap.get?_push_size _ rfl, rfl⟩ isSubtype_stop ?_)
  exact wpAny_pure (h _ fun b ob e => Heap.get?_push_of_some _ (Heap.get?_push_of_some _ e))
theorem put2 {I S n ep i : Nat} {first x : Value} {k : Nat} {Q : Unit → Shared → Prop} (hI : s.heap.get? I = some (SiObj first i S n ep)) (hk : k < 5)
    (h : ∀ h', h'.get? I = some { cls := .type "set_iterator", data := .fields ((#[first, rawInt i, .ref S, rawInt n, rawInt ep] : Array Value).setIfInBounds k x) } → (∀ b, b ≠ I → h'.get? b = s.heap.get? b) → Q () { s with heap := h' }) :
    wpAny (model prog w) A (setField (.ref I) k x) Q E s := by
  refine wpAny_setField hI rfl hk (h _ ?_ fun b hb => Heap.get?_update_other _ _ (Ne.symm hb))
  have g := Heap.get?_update_self (Obj.mapFields (·.setIfInBounds k x)) hI rfl
  exact g
theorem si_int_item {I S : Addr} {slot i nx : Nat} {v : Value} {Q : Option Value → Shared → Prop} (hI : s.heap.get? I = some (SiObj (rawInt slot) i S es.size ep)) (ho : s.heap.get? S = some o) (hd : o.data = .set es ep t) (hf : t.fits es.size = true)
    (hn : ∀ (Q' : Option (Value × Nat) → Shared → Prop) (E' : Value → Shared → Prop), Q' (some (v, nx)) s → wpAny (model prog w) A.in1 (setNext S slot i ep) Q' E' s)
    (h : ∀ h', h'.get? I = some (SiObj (rawInt nx) (i + 1) S es.size ep) → (∀ b, b ≠ I → h'.get? b = s.heap.get? b) → Q (some v) { s with heap := h' }) : wpAny (model prog w) A (pyNext (.ref I)) Q E s := by
  refine si_int hI ho hd hf (wpAny_bind (hn _ _ ?_))
  refine wpAny_bind (put2 hI (by decide) fun h1 g1 k1 => ?_)
  have g1' : h1.get? I = some (SiObj (.int (nx : Nat) 0) i S es.size ep) := g1
  refine wpAny_bind (put2 (s := { s with heap := h1 }) g1' (by decide) fun h2 g2 k2 => wpAny_pure ⟨_, rfl, h h2 g2 fun b hb => (k2 b hb).trans (k1 b hb)⟩)
theorem si_int_end {I S : Addr} {slot i : Nat} {Q : Option Value → Shared → Prop} (calm : A.handled = none) (hI : s.heap.get? I = some (SiObj (rawInt slot) i S es.size ep)) (ho : s.heap.get? S = some o) (hd : o.data = .set es ep t) (hf : t.fits es.size = true)
    (hn : ∀ (Q' : Option (Value × Nat) → Shared → Prop) (E' : Value → Shared → Prop), Q' none s → wpAny (model prog w) A.in1 (setNext S slot i ep) Q' E' s)
    (h : ∀ h', (∀ b ob, b ≠ I → s.heap.get? b = some ob → h'.get? b = some ob) → Q none { s with heap := h' }) : wpAny (model prog w) A (pyNext (.ref I)) Q E s := by
  refine si_int hI ho hd hf (wpAny_bind (hn _ _ ?_))
  refine wpAny_bind (put2 hI (by decide) fun h1 g1 k1 => ?_)
  exact stop_ok (s := { s with heap := h1 }) calm fun h2 k2 => h h2 fun b ob hb e => k2 b ob ((k1 b hb).trans e)
theorem si_ref_item {I S p : Addr} {i : Nat} {op : Obj} {pl : Array Value} {np j : Nat} {tk : Tok} {e : Int × Value} {Q : Option Value → Shared → Prop} (hI : s.heap.get? I = some (SiObj (.ref p) i S es.size ep)) (ho : s.heap.get? S = some o) (hd : o.data = .set es ep t) (hf : t.fits es.size = true)
    (hp : s.heap.get? p = some op) (hq : op.data = .seq pl np) (hj : pl[i]? = some (.int (j : Nat) tk)) (he : es[j]? = some e)
    (h : ∀ h', h'.get? I = some (SiObj (.ref p) (i + 1) S es.size ep) → (∀ b, b ≠ I → h'.get? b = s.heap.get? b) → Q (some e.2) { s with heap := h' }) : wpAny (model prog w) A (pyNext (.ref I)) Q E s := by
  have ty : s.TypeIs (.ref I) "set_iterator" := ⟨_, hI, rfl⟩
  unfold pyNext
  refine wpAny_bind (wpAny_attempt (wpAny_callSpecial?_slot (name := Str.ofString "__next__") ty slot_si_next (wpAny_call_entry slot_si_next ty entry_si_next ?_ (args_si_next _))))
  unfold Builtin.«set_iterator.__next__»
  refine wpAny_bind (m := slotArgs "__next__" 0 ⟨[.ref I], []⟩) (wpAny_pure (wpAny_bind (wpAny_fieldsOf hI rfl ?_)))
  simp only [rawInt]
  refine wpAny_bind (wpAny_setEntries_of ho hd hf ?_)
  simp only [bne_self_eq_false, Bool.false_eq_true, if_false, Int.toNat_natCast]
  refine wpAny_bind (wpAny_seqItems hp hq ?_)
  simp only [hj]
  refine wpAny_bind (nextDrawn_ok (i := j) ho hd hf he ?_)
  refine wpAny_bind (put2 hI (by decide) fun h1 g1 k1 => wpAny_pure ⟨_, rfl, wpAny_pure (h h1 g1 k1)⟩)
theorem si_ref_end {I S p : Addr} {i : Nat} {op : Obj} {pl : Array Value} {np : Nat} {Q : Option Value → Shared → Prop} (calm : A.handled = none) (hI : s.heap.get? I = some (SiObj (.ref p) i S es.size ep)) (ho : s.heap.get? S = some o) (hd : o.data = .set es ep t) (hf : t.fits es.size = true)
    (hp : s.heap.get? p = some op) (hq : op.data = .seq pl np) (hj : pl[i]? = none)
    (h : ∀ h', (∀ b ob, b ≠ I → s.heap.get? b = some ob → h'.get? b = some ob) → Q none { s with heap := h' }) : wpAny (model prog w) A (pyNext (.ref I)) Q E s := by
  have ty : s.TypeIs (.ref I) "set_iterator" := ⟨_, hI, rfl⟩
  unfold pyNext
  refine wpAny_bind (wpAny_attempt (wpAny_callSpecial?_slot (name := Str.ofString "__next__") ty slot_si_next (wpAny_call_entry slot_si_next ty entry_si_next ?_ (args_si_next _))))
  unfold Builtin.«set_iterator.__next__»
  refine wpAny_bind (m := slotArgs "__next__" 0 ⟨[.ref I], []⟩) (wpAny_pure (wpAny_bind (wpAny_fieldsOf hI rfl ?_)))
  simp only [rawInt]
  refine wpAny_bind (wpAny_setEntries_of ho hd hf ?_)
  simp only [bne_self_eq_false, Bool.false_eq_true, if_false, Int.toNat_natCast]
  refine wpAny_bind (wpAny_seqItems hp hq ?_)
  simp only [hj]
  refine wpAny_bind (put2 hI (by decide) fun h1 g1 k1 => ?_)
  have g1' : h1.get? I = some (SiObj (.int 0 0) i S es.size ep) := g1
  refine wpAny_bind (put2 (s := { s with heap := h1 }) g1' (by decide) fun h2 g2 k2 => ?_)
  have fin := stop_ok (prog := prog) (w := w) (E := E) (Q := Q) (s := { s with heap := h2 }) calm fun h3 k3 => h h3 fun b ob hb e => k3 b ob ((k2 b hb).trans ((k1 b hb).trans e))
  refine wpAny_mono fin (fun fl s' hq => ?_) fun e s' hq => hq
  obtain ⟨r, e, q⟩ := hq
  exact ⟨r, e, wpAny_pure q⟩
end
end STab
namespace STab
open PySem PyProof.Rows
theorem slot_si_iter : Slot "set_iterator" "__iter__" "set_iterator.__iter__" :=
  .of (owner := "set_iterator") (n := "__iter__") (by rw [typeLookup_type, builtinLookup_eq_fast]; kernel_rfl) (by decide +kernel) (by decide +kernel) (by decide +kernel) (by first | exact .inl (by decide +kernel) | exact .inr (by decide +kernel)) (by rw [isSubtype_type]; kernel_rfl)
theorem entry_si_iter : entryFor table "set_iterator.__iter__" = some Builtin.«dict_keyiterator.__iter__» := entryFor_alias (id' := "dict_keyiterator.__iter__") (by kernel_rfl) rfl (by decide +kernel) (by kernel_rfl)
theorem args_si_iter (a : Value) : argsOk "set_iterator.__iter__" ⟨[a], []⟩ := by
  unfold argsOk
  kernel_rfl
section
variable {prog : Program} {w : World} {A : Around} {E : Value → Shared → Prop} {s : Shared}
theorem si_self {I S i n ep : Nat} {first : Value} {Q : Value → Shared → Prop} (hI : s.heap.get? I = some (SiObj first i S n ep)) (h : Q (.ref I) s) : wpAny (model prog w) A (pyIter (.ref I)) Q E s := by
  have ty : s.TypeIs (.ref I) "set_iterator" := ⟨_, hI, rfl⟩
  refine wpAny_pyIter_slot ty slot_si_iter (wpAny_call_entry slot_si_iter ty entry_si_iter ?_ (args_si_iter _))
  show wpAny _ _ (ret (.ref I)) _ _ s
  exact wpAny_pure ⟨_, rfl, "set_iterator", _, ty, slot_si_next.lookup, h⟩
theorem moved_of {I : Addr} {h' : Heap} {tk : Nat} (k : ∀ b ob, b ≠ I → s.heap.get? b = some ob → h'.get? b = some ob) (ht : s.toks ≤ tk) : Moved [I] (fun a b => b = a) s { s with heap := h', toks := tk } :=
  ⟨fun b ob hb e => k b ob (fun z => hb (List.mem_singleton.mpr z)) e, rfl, rfl, rfl, ht⟩
/-- a walk whose turns are by slots -/
theorem walks_slot (calm : A.handled = none) {I S : Addr} (hne : I ≠ S) {o : Obj} {es : Array (Int × Value)} {ep : Nat} {t : SetTable} (hd : o.data = .set es ep t) (hf : t.fits es.size = true) (vs : List Value) (hl : vs.length = es.size) (sl : Nat → Nat)
    (hn : ∀ (i : Nat) (v : Value), vs[i]? = some v → ∀ (s : Shared) (Q' : Option (Value × Nat) → Shared → Prop) (E' : Value → Shared → Prop), s.heap.get? S = some o → Q' (some (v, sl (i + 1))) s → wpAny (model prog w) A.in1 (setNext S (sl i) i ep) Q' E' s)
    (hz : ∀ (s : Shared) (Q' : Option (Value × Nat) → Shared → Prop) (E' : Value → Shared → Prop), s.heap.get? S = some o → Q' none s → wpAny (model prog w) A.in1 (setNext S (sl es.size) es.size ep) Q' E' s) :
    WalksS prog w A I [I, S] [I] (fun a b => b = a) es.size (fun i v => vs[i]? = some v) (fun i s => s.heap.get? I = some (SiObj (rawInt (sl i)) i S es.size ep) ∧ s.heap.get? S = some o) where
  sub := fun b hb => by rw [List.mem_singleton.mp hb]; exact List.mem_cons_self
  grefl := fun _ => rfl
  gtrans := fun _ _ _ h1 h2 => h2.trans h1
  frame := fun i s h' tk st _ k => ⟨k I List.mem_cons_self _ st.1, k S (List.mem_cons_of_mem _ List.mem_cons_self) _ st.2⟩
  item := fun i s Q E' hi st hQ => by
    have hv : vs[i]? = some (vs[i]'(by omega)) := List.getElem?_eq_getElem _
    refine si_int_item st.1 st.2 hd hf (hn i _ hv s · · st.2) fun h' g k => ?_
    exact hQ _ _ hv ⟨g, (k S (Ne.symm hne)).trans st.2⟩ (moved_of (fun b ob hb e => (k b hb).trans e) (Nat.le_refl _))
  done := fun s Q E' st hQ => si_int_end calm st.1 st.2 hd hf (hz s · · st.2) fun h' k => hQ _ (moved_of k (Nat.le_refl _))
  self := fun i s Q E' st q => si_self st.1 q
/-- a walk in a drawn order -/
theorem walks_drawn (calm : A.handled = none) {I S p : Addr} (hne : I ≠ S) (hnp : I ≠ p) {o op : Obj} {es : Array (Int × Value)} {ep np : Nat} {t : SetTable} (hd : o.data = .set es ep t) (hf : t.fits es.size = true) (js : List Nat) (hl : js.length = es.size) (hj : ∀ j ∈ js, j < es.size)
    (hq : op.data = .seq (js.map fun (j : Nat) => rawInt j).toArray np) :
    WalksS prog w A I [I, S, p] [I] (fun a b => b = a) es.size (fun i v => ∃ j, js[i]? = some j ∧ ∃ e, es[j]? = some e ∧ v = e.2) (fun i s => s.heap.get? I = some (SiObj (.ref p) i S es.size ep) ∧ s.heap.get? S = some o ∧ s.heap.get? p = some op) where
  sub := fun b hb => by rw [List.mem_singleton.mp hb]; exact List.mem_cons_self
  grefl := fun _ => rfl
  gtrans := fun _ _ _ h1 h2 => h2.trans h1
  frame := fun i s h' tk st _ k => ⟨k I List.mem_cons_self _ st.1, k S (List.mem_cons_of_mem _ List.mem_cons_self) _ st.2.1, k p (List.mem_cons_of_mem _ (List.mem_cons_of_mem _ List.mem_cons_self)) _ st.2.2⟩
  item := fun i s Q E' hi st hQ => by
    have hv : js[i]? = some (js[i]'(by omega)) := List.getElem?_eq_getElem _
    have hlt : js[i]'(by omega) < es.size := hj _ (List.getElem_mem _)
    have he : es[js[i]'(by omega)]? = some (es[js[i]'(by omega)]'hlt) := Array.getElem?_eq_getElem _
    have hpl : (js.map fun (j : Nat) => rawInt j).toArray[i]? = some (.int ((js[i]'(by omega) : Nat) : Int) 0) := by
      rw [List.getElem?_toArray, List.getElem?_map, hv]
      rfl
    refine si_ref_item st.1 st.2.1 hd hf st.2.2 hq hpl he fun h' g k => ?_
    exact hQ _ _ ⟨_, hv, _, he, rfl⟩ ⟨g, (k S (Ne.symm hne)).trans st.2.1, (k p (Ne.symm hnp)).trans st.2.2⟩ (moved_of (fun b ob hb e => (k b hb).trans e) (Nat.le_refl _))
  done := fun s Q E' st hQ => si_ref_end calm st.1 st.2.1 hd hf st.2.2 hq (by rw [List.getElem?_toArray, List.getElem?_map, List.getElem?_eq_none (by omega)]; rfl) fun h' k => hQ _ (moved_of k (Nat.le_refl _))
  self := fun i s Q E' st q => si_self st.1 q
/-- the list's walk over an iterator that has come -/
theorem extend_by {I T : Addr} {fp : List Addr} {n : Nat} {P : Nat → Value → Prop} {St : Nat → Shared → Prop} {R : Result → Shared → Prop} (W : WalksS prog w A.in1 I fp [I] (fun a b => b = a) n P St) (hn : n ≤ sizeLine) (hT : T ∉ fp) {c0 : Nat} (res : Value) (st : St 0 s)
    (hL : s.heap.get? T = some { cls := .type "list", data := .seq #[] c0 })
    (h : ∀ s' acc c', Moved (T :: [I]) (fun a b => b = a) s s' → s'.heap.get? T = some { cls := .type "list", dict := none, data := .seq acc c', slots := #[] } → ItemsOf P acc n → R (.ok (.ret res)) s') :
    codeAny (model prog w) A (.builtin "list.extend.loop" ⟨[.ref T, .ref I, res], []⟩) R s :=
  codeAny_extend_loopS W hn T hT res n 0 _ #[] c0 rfl (Nat.zero_le _) st hL (ItemsOf.nil P) h
end
end STab
namespace STab
open PySem PyProof.Rows
section
variable {prog : Program} {w : World} {A : Around} {E : Value → Shared → Prop} {s : Shared}
theorem ints_of : ∀ {l es : List (Int × Value)}, ElemsOf (intKind prog w) es → (∀ e ∈ l, e ∈ es) → IntsAre (l.map (·.2)) (l.map ikey)
  | [], _, _, _ => .nil
  | e :: l, es, h, sub => by
    obtain ⟨⟨k, h1, _⟩, _⟩ := h e (sub e List.mem_cons_self)
    obtain ⟨tk, e2⟩ := Value.isInt_shape (k := k) (v := e.2) h1
    have q : ikey e = k := by unfold ikey; rw [e2]
    rw [List.map_cons, List.map_cons, e2, q]
    exact .cons k tk (ints_of h fun x hx => sub x (List.mem_cons_of_mem _ hx))
/-- the slot that is looked at ahead of turn i -/
def slotAt (t : SetTable) : Nat → Nat
  | 0 => 0
  | k + 1 => t.place.getD k 0 + 1
theorem slotAt_below {t : SetTable} {led : Bool} (T : Tb t led) {i : Nat} (h : i ≤ t.place.size) : SetTable.below t.place (slotAt t i) = i := by
  cases i with
  | zero => exact below_zero T.srt
  | succ k =>
    have hk : k < t.place.size := h
    have e : t.place.getD k 0 = t.place[k] := by simp [Array.getD, hk]
    show SetTable.below t.place (t.place.getD k 0 + 1) = k + 1
    rw [e]
    exact below_next T.srt hk
theorem iter_set {S : Addr} {ks : List Int} {Q : Value → Shared → Prop} (hS : SetI prog w s.heap S (ledIn w) ks)
    (h : ∀ (I : Addr) (fp : List Addr) (St : Nat → Shared → Prop) (P : Nat → Value → Prop) (vs : List Value) (ls : List Int) (h' : Heap) (d' : Drawn), (∀ A' : Around, A'.handled = none → WalksS prog w A' I fp [I] (fun a b => b = a) vs.length P St) →
      (∀ (i : Nat) (v : Value), P i v → vs[i]? = some v) → IntsAre vs ls → ls.Perm ks → s.heap.objs.size ≤ I → (∀ b ∈ fp, b = S ∨ s.heap.objs.size ≤ b) → St 0 { s with heap := h', drawn := d' } → (∀ b o, s.heap.get? b = some o → h'.get? b = some o) → Q (.ref I) { s with heap := h', drawn := d' }) :
    wpAny (model prog w) A (pyIter (.ref S)) Q E s := by
  have ty := hS.typeIs
  obtain ⟨o, es, ep, t, ho, hx, hd, hel, hb, hf, T, pm⟩ := hS
  have lS := Heap.lt_size ho
  have psz : t.place.size = es.size := by
    simp only [SetTable.fits, Bool.and_eq_true, beq_iff_eq] at hf
    exact hf.1
  refine wpAny_pyIter_slot ty PySem.F.slot_set_iter (wpAny_call_entry PySem.F.slot_set_iter ty entry_s_iter ?_ (PySem.F.args_set_iter_1 _))
  unfold Builtin.«frozenset.__iter__»
  refine wpAny_bind (wpAny_of_eq (a := S) rfl ?_)
  unfold Builtin.Frozenset.sizeOf
  refine wpAny_bind (wpAny_bind (wpAny_setEntries_of ho hd hf (wpAny_pure ?_)))
  refine wpAny_bind (setDrawn_ok ho hd hf ?_)
  -- behind the first field: the record is laid
  have lay : ∀ (s1 : Shared) (first : Value) (Q1 : Value → Shared → Prop), s1.heap.get? S = some o → Q1 (.ref s1.heap.objs.size) { s1 with heap := s1.heap.push (SiObj first 0 S es.size ep) } →
      wpAny (model prog w) A.in1 (setEpoch S >>= fun e => newFields "set_iterator" [first, rawInt 0, .ref S, rawInt es.size, rawInt e] >>= fun r => ret r)
        (fun fin s' => ∃ r, fin = .done (.ret r) ∧ Q1 r s') (fun e s' => E e s') s1 := fun s1 first Q1 h1 q => by
    refine wpAny_bind (wpAny_setEpoch_of h1 hd hf (wpAny_bind ?_))
    exact wpAny_newObj_type (wpAny_pure ⟨_, rfl, q⟩)
  have cases_b : w.params.followText "set-order" = true ∨ w.params.followText "set-order" = false := by
    cases w.params.followText "set-order"
    · exact .inr rfl
    · exact .inl rfl
  have slots : ∀ (l : List (Int × Value)) (sl : Nat → Nat), l.Perm es.toList → sl 0 = 0 →
      (∀ (i : Nat) (e : Int × Value), l[i]? = some e → ∀ (A' : Around) (s : Shared) (Q' : Option (Value × Nat) → Shared → Prop) (E' : Value → Shared → Prop), s.heap.get? S = some o → Q' (some (e.2, sl (i + 1))) s → wpAny (model prog w) A' (setNext S (sl i) i ep) Q' E' s) →
      (∀ (A' : Around) (s : Shared) (Q' : Option (Value × Nat) → Shared → Prop) (E' : Value → Shared → Prop), s.heap.get? S = some o → Q' none s → wpAny (model prog w) A' (setNext S (sl es.size) es.size ep) Q' E' s) →
      Q (.ref s.heap.objs.size) { s with heap := s.heap.push (SiObj (rawInt 0) 0 S es.size ep) } := by
    intro l sl pl z0 hn hz
    have ll : (l.map (·.2)).length = es.size := by rw [List.length_map, pl.length_eq, Array.length_toList]
    have hn' : ∀ (A' : Around) (i : Nat) (v : Value), (l.map (·.2))[i]? = some v → ∀ (s : Shared) (Q' : Option (Value × Nat) → Shared → Prop) (E' : Value → Shared → Prop), s.heap.get? S = some o → Q' (some (v, sl (i + 1))) s → wpAny (model prog w) A'.in1 (setNext S (sl i) i ep) Q' E' s := by
      intro A' i v hv s0 Q' E' g q
      rw [List.getElem?_map] at hv
      cases q1 : l[i]? with
      | none => rw [q1] at hv; cases hv
      | some e =>
        rw [q1] at hv
        have hv : e.2 = v := Option.some.inj hv
        subst hv
        exact hn i e q1 _ s0 Q' E' g q
    have W : ∀ A' : Around, A'.handled = none → WalksS prog w A' s.heap.objs.size [s.heap.objs.size, S] [s.heap.objs.size] (fun a b => b = a) (l.map (·.2)).length (fun i v => (l.map (·.2))[i]? = some v) (fun i s1 => s1.heap.get? s.heap.objs.size = some (SiObj (rawInt (sl i)) i S es.size ep) ∧ s1.heap.get? S = some o) := fun A' calm => by
      rw [ll]
      exact walks_slot calm (Nat.ne_of_gt lS) hd hf (l.map (·.2)) ll sl (hn' A') (fun s0 Q' E' g q => hz _ s0 Q' E' g q)
    refine h s.heap.objs.size [s.heap.objs.size, S] _ _ (l.map (·.2)) (l.map ikey) _ s.drawn W (fun i v hv => hv) (ints_of hel fun e he => pl.mem_iff.mp he) ((pl.map ikey).trans pm) (Nat.le_refl _) (fun b hb => ?_) ⟨?_, Heap.get?_push_of_some _ ho⟩ fun b ob e => Heap.get?_push_of_some _ e
    · rcases List.mem_cons.mp hb with z | z
      · exact .inr (Nat.le_of_eq z.symm)
      · exact .inl (List.mem_singleton.mp z)
    · rw [z0]
      exact Heap.get?_push_size _ rfl
  cases hdr : (!(w.params.followText "set-order") && (!t.plain && decide (es.size > 1))) with
  | true =>
    simp only [if_true]
    refine wpAny_bind (draw_perm es.size (List.range es.size) s (by simp) fun js d pj => ?_)
    have hj : ∀ j ∈ js, j < es.size := fun j m => List.mem_range.mp (pj.mem_iff.mp m)
    have jl : js.length = es.size := by rw [pj.length_eq, List.length_range]
    refine wpAny_bind (wpAny_newObj_type ?_ (show (js.map fun (i : Nat) => rawInt i).toArray.size ≤ sizeLine by rw [List.size_toArray, List.length_map, jl]; exact fits_of_scanBound hb))
    have g1 : (s.heap.push { cls := .type "tuple", data := .seq (js.map fun (i : Nat) => rawInt i).toArray }).get? S = some o := Heap.get?_push_of_some _ ho
    have sz := Heap.size_push s.heap { cls := .type "tuple", data := .seq (js.map fun (i : Nat) => rawInt i).toArray }
    refine lay _ _ _ g1 ⟨"set_iterator", _, ⟨_, Heap.get?_push_size _ rfl, rfl⟩, slot_si_next.lookup, ?_⟩
    let l : List (Int × Value) := js.map fun j => es.getD j (0, .none)
    have lg : ∀ j, j < es.size → es[j]? = some (es.getD j (0, .none)) := fun j hj => by simp [Array.getD, hj]
    have pl : l.Perm es.toList := by
      refine (pj.map fun j => es.getD j (0, .none)).trans (List.Perm.of_eq ?_)
      refine List.ext_getElem (by simp) fun i h1 h2 => ?_
      have hi : i < es.size := by simpa using h2
      simp [Array.getD, hi]
    have ll : (l.map (·.2)).length = es.size := by simp [l, jl]
    have W : ∀ A' : Around, A'.handled = none → WalksS prog w A' (s.heap.push { cls := .type "tuple", data := .seq (js.map fun (i : Nat) => rawInt i).toArray }).objs.size [(s.heap.push { cls := .type "tuple", data := .seq (js.map fun (i : Nat) => rawInt i).toArray }).objs.size, S, s.heap.objs.size]
        [(s.heap.push { cls := .type "tuple", data := .seq (js.map fun (i : Nat) => rawInt i).toArray }).objs.size] (fun a b => b = a) (l.map (·.2)).length (fun i v => ∃ j, js[i]? = some j ∧ ∃ e, es[j]? = some e ∧ v = e.2) _ := fun A' calm => by
      rw [ll]
      exact walks_drawn calm (by rw [sz]; exact Nat.ne_of_gt (Nat.lt_succ_of_lt lS)) (by rw [sz]; exact Nat.ne_of_gt (Nat.lt_succ_self _)) hd hf js jl hj (op := { cls := .type "tuple", data := .seq (js.map fun (i : Nat) => rawInt i).toArray }) rfl
    refine h _ _ _ _ (l.map (·.2)) (l.map ikey) _ d W (fun i v hv => ?_) (ints_of hel fun e he => pl.mem_iff.mp he) ((pl.map ikey).trans pm) (by rw [sz]; exact Nat.le_succ _) (fun b hb => ?_)
      ⟨Heap.get?_push_size _ rfl, Heap.get?_push_of_some _ g1, Heap.get?_push_of_some _ (Heap.get?_push_size _ rfl)⟩ fun b ob e => Heap.get?_push_of_some _ (Heap.get?_push_of_some _ e)
    · obtain ⟨j, q1, e, q2, rfl⟩ := hv
      have jlt := hj j (List.mem_of_getElem? q1)
      rw [lg j jlt] at q2
      simp only [l, List.getElem?_map, q1, Option.map_some]
      rw [Option.some.inj q2]
    · rcases List.mem_cons.mp hb with z | z
      · refine .inr ?_
        rw [z, sz]
        exact Nat.le_succ _
      · rcases List.mem_cons.mp z with z | z
        · exact .inl z
        · exact .inr (Nat.le_of_eq (List.mem_singleton.mp z).symm)
  | false =>
    simp only [Bool.false_eq_true, if_false]
    refine wpAny_bind (wpAny_pure (lay s _ _ ho ⟨"set_iterator", _, ⟨_, Heap.get?_push_size _ rfl, rfl⟩, slot_si_next.lookup, ?_⟩))
    rcases cases_b with bt | bt
    · refine slots (pickOrder (w.params.setOrder S ep) es).toList (fun _ => 0) (pick_perm _ es) rfl (fun i e he A' s0 Q' E' g q => ?_) (fun A' s0 Q' E' g q => ?_)
      · refine next_text 0 i g hd hf bt ?_
        rw [← Array.getElem?_toList, he]
        exact q
      · refine next_text 0 es.size g hd hf bt ?_
        have e1 : (pickOrder (w.params.setOrder S ep) es)[es.size]? = none := by
          rw [← Array.getElem?_toList]
          refine List.getElem?_eq_none ?_
          rw [(pick_perm _ es).length_eq, Array.length_toList]
          exact Nat.le_refl _
        rw [e1]
        exact q
    · have hl : t.led = true := by rw [T.ld]; show (!(w.params.followText "set-order")) = true; rw [bt]; rfl
      have hp : (!t.plain && decide (es.size > 1)) = false := by
        rw [bt] at hdr
        simpa using hdr
      refine slots es.toList (slotAt t) (List.Perm.refl _) rfl (fun i e he A' s0 Q' E' g q => ?_) (fun A' s0 Q' E' g q => ?_)
      · have hi : i < es.size := by
          have := (List.getElem?_eq_some_iff.mp he).1
          simpa using this
        refine next_place (slotAt t i) i g hd hf bt hl hp ?_
        rw [slotAt_below T (by omega), ← Array.getElem?_toList, he]
        have e2 : t.place[i]? = some (t.place.getD i 0) := by
          have : i < t.place.size := by omega
          simp [Array.getD, this]
        rw [e2]
        exact q
      · refine next_place (slotAt t es.size) es.size g hd hf bt hl hp ?_
        rw [slotAt_below T (by omega)]
        have e1 : es[es.size]? = none := by simp
        rw [e1]
        exact q
end
end STab
namespace STab
open PySem PyProof.Rows
section
variable {prog : Program} {w : World} {A : Around} {E : Value → Shared → Prop} {s : Shared}
theorem hint_set {S : Addr} {Q : Bool → Shared → Prop} (ty : s.TypeIs (.ref S) "set") (h : Q false s) : wpAny (model prog w) A (Builtin.List.listLengthHint (.ref S)) Q E s := by
  unfold Builtin.List.listLengthHint
  refine wpAny_bind (wpAny_specialOf ty PySem.F.slot_set_len.lookup ?_)
  generalize hid : ("set.__len__" : String) = id0
  wp_delta
  rw [show splitId id0 = some ("set", "__len__") from by subst hid; decide +kernel]
  subst hid
  refine wpAny_bind (wpAny_isInstance (T := "set") (b := true) ty (by rw [isSubtype_type]; kernel_rfl) ?_)
  show wpAny _ A (typeOf (Value.ref S) >>= _) _ _ _
  exact wpAny_bind (wpAny_typeOf ty (wpAny_pure h))
theorem items_list {vs : List Value} {P : Nat → Value → Prop} {acc : Array Value} (hP : ∀ (i : Nat) (v : Value), P i v → vs[i]? = some v) (h : ItemsOf P acc vs.length) : acc.toList = vs := by
  refine List.ext_getElem (by rw [Array.length_toList]; exact h.1) fun i h1 h2 => ?_
  have hi : i < acc.size := by simpa using h1
  have q := hP i _ (h.2 i (acc[i]'hi) (Array.getElem?_eq_getElem hi))
  have e := (List.getElem?_eq_some_iff.mp q).2
  simpa using e.symm
theorem extend_set (calm : A.handled = none) {R : Result → Shared → Prop} {S T : Addr} {ks : List Int} {c0 : Nat} (res : Value) (hS : SetI prog w s.heap S (ledIn w) ks) (small : ks.length ≤ 1000) (hT : s.heap.get? T = some { cls := .type "list", data := .seq #[] c0 })
    (hR : ∀ (s' : Shared) (acc : Array Value) (c' : Nat) (ls : List Int), (∀ b o, b ≠ T → s.heap.get? b = some o → s'.heap.get? b = some o) → s'.gens = s.gens → s'.os = s.os → s'.heap.get? T = some { cls := .type "list", dict := none, data := .seq acc c', slots := #[] } →
      IntsAre acc.toList ls → ls.Perm ks → R (.ok (.ret res)) s') :
    wpAny (model prog w) A.in1 (Builtin.List.listExtendWith (.ref T) (.ref S) res)
      (fun fin s' => match fin with | .done f => R (.ok f) s' | .again c' => c'.quiet = true ∧ codeAny (model prog w) A c' R s') (fun e s' => R (.error e) s') s := by
  have ty := hS.typeIs
  have nST : S ≠ T := by
    rintro rfl
    obtain ⟨o, _, _, _, ho, hx, _⟩ := hS
    rw [hT] at ho
    cases ho
    exact absurd (show Value.type "list" = Value.type "set" from hx.1) (by decide)
  have ltT := Heap.lt_size hT
  unfold Builtin.List.listExtendWith
  refine wpAny_bind (wpAny_typeOf ty ?_)
  have h1 : Builtin.List.listSameRef (.ref T) (.ref S) = false := by simp [Builtin.List.listSameRef, Ne.symm nST]
  have h2 : (Value.type "set" == Value.type "list") = false := by decide
  have h3 : (Value.type "set" == Value.type "tuple") = false := by decide
  simp only [h1, h2, h3, Bool.or_false, Bool.false_eq_true, if_false]
  refine wpAny_bind (iter_set hS fun I fp St P vs ls h' d' W hP hi pm hI hfp st k => ?_)
  have ty' : Shared.TypeIs { s with heap := h', drawn := d' } (.ref S) "set" := by
    obtain ⟨o, ho, hc⟩ := ty
    exact ⟨o, k _ _ ho, hc⟩
  refine wpAny_bind (wpAny_holding (hint_set ty' ?_))
  have nTf : T ∉ fp := fun z => by
    rcases hfp T z with e | e
    · exact nST e.symm
    · exact absurd ltT (Nat.not_lt.mpr e)
  have nTI : T ≠ I := fun e => absurd ltT (Nat.not_lt.mpr (by rw [e]; exact hI))
  have calm1 : A.in1.handled = none := calm
  have hlen : vs.length ≤ sizeLine := by
    have e : vs.length = ks.length := by rw [hi.length, pm.length_eq]
    rw [e]
    exact Nat.le_trans small (by decide)
  have gT : h'.get? T = some { cls := .type "list", data := .seq #[] c0 } := k _ _ hT
  have res1 : (false || [("set" : String), "frozenset", "dict", "dict_keys", "dict_values", "dict_items"].any (Value.type "set" == .type ·)) = true := by decide
  show wpAny _ _ (if (false || [("set" : String), "frozenset", "dict", "dict_keys", "dict_values", "dict_items"].any (Value.type "set" == .type ·)) = true then _ else _) _ _ _
  rw [if_pos res1]
  refine wpAny_bind (wpAny_rule (wpAny_bind ?_))
  show wpAny _ _ (updateSeq T (·.push .none) >>= fun _ => updateSeq T (·.pop)) _ _ _
  refine wpAny_bind (wpAny_updateSeq gT rfl ?_)
  have g2 := Heap.get?_update_self (Obj.mapSeq (·.push Value.none)) gT rfl
  refine wpAny_updateSeq (hz := by seq_fits) g2 rfl ?_
  have g3 := Heap.get?_update_self (Obj.mapSeq (·.pop)) g2 rfl
  have oth : ∀ b ob, b ≠ T → h'.get? b = some ob → ((h'.update T (Obj.mapSeq (·.push Value.none))).update T (Obj.mapSeq (·.pop))).get? b = some ob := fun b ob hb e =>
    (Heap.get?_update_other _ _ (Ne.symm hb)).trans ((Heap.get?_update_other _ _ (Ne.symm hb)).trans e)
  refine wpAny_pure ⟨plainId_quiet PySem.F.plain_extend_loop _, ?_⟩
  refine extend_by (W A.in1 calm1) hlen nTf res ((W A.in1 calm1).frame 0 { s with heap := h', drawn := d' } _ _ st (Nat.le_refl _) fun b hb ob e => oth b ob (fun z => nTf (by rw [← z]; exact hb)) e) g3 fun s' acc c' mv hL items => ?_
  have ea := items_list hP items
  refine hR s' acc c' ls (fun b ob hb e => ?_) mv.gens mv.os hL (by rw [ea]; exact hi) pm
  have lb := Heap.lt_size e
  refine mv.heap b ob (fun z => ?_) (oth b ob hb (k b ob e))
  rcases List.mem_cons.mp z with z | z
  · exact hb z
  · rw [List.mem_singleton.mp z] at lb
    exact absurd lb (Nat.not_lt.mpr hI)
theorem collect_set (calm : A.handled = none) {S : Addr} {ks : List Int} {Q : List Value → Shared → Prop} (hS : SetI prog w s.heap S (ledIn w) ks) (small : ks.length ≤ 1000)
    (h : ∀ (s' : Shared) (vs : List Value) (ls : List Int), (∀ b o, s.heap.get? b = some o → s'.heap.get? b = some o) → s'.gens = s.gens → s'.os = s.os → IntsAre vs ls → ls.Perm ks → Q vs s') : wpAny (model prog w) A (collect (.ref S)) Q E s := by
  have oS : ∃ o, s.heap.get? S = some o := by
    obtain ⟨o, _, _, _, ho, _⟩ := hS
    exact ⟨o, ho⟩
  unfold collect
  refine wpAny_bind (wpAny_runValue (codeAny_builtin PySem.F.entry_proto_collect ?_))
  rw [Around.under_plainId PySem.F.plain_proto_collect _]
  show wpAny _ A.in1 (newList [] >>= fun l => again (.builtin "list.__iadd__" ⟨[l, .ref S], []⟩)) _ _ s
  refine wpAny_bind (wpAny_newObj_type (wpAny_pure ⟨plainId_quiet PySem.F.plain_list_iadd _, codeAny_builtin PySem.F.entry_list_iadd ?_⟩))
  rw [Around.under_plainId PySem.F.plain_list_iadd _]
  show wpAny _ A.in1 (Builtin.List.listExtendWith (.ref s.heap.objs.size) (.ref S) (.ref s.heap.objs.size)) _ _ _
  refine extend_set (A := A) (R := fun r s' => match r with | .ok (.ret v) => wpAny (model prog w) A (match v with | .ref a => (do let o ← load a; match o.data with | .seq xs _ => pure xs.toList | _ => unsupported "internal:collect") | _ => unsupported "internal:collect") Q E s' | .ok _ => False | .error e => E e s') (s := { s with heap := s.heap.push { cls := .type "list", dict := none, data := .seq ([] : List Value).toArray } }) (c0 := 0) calm (.ref s.heap.objs.size) (hS.keep fun o e => Heap.get?_push_of_some _ e) small (Heap.get?_push_size s.heap rfl) fun s' acc c' ls k eg eo hL hi pm => ?_
  show wpAny _ A (load s.heap.objs.size >>= _) _ _ s'
  refine wpAny_bind (wpAny_load hL (wpAny_pure (h s' acc.toList ls (fun b o e => k b o (Nat.ne_of_lt (Heap.lt_size e)) (Heap.get?_push_of_some _ e)) eg eo hi pm)))
/-- sorted of whatever gives ints -/
theorem sorted_by {x : Value} {ns : List Int} {Q : Value → Shared → Prop} (small : ns.length < 64)
    (hc : ∀ (Q' : List Value → Shared → Prop) (E' : Value → Shared → Prop), (∀ (s' : Shared) (vs : List Value) (ls : List Int), (∀ b o, s.heap.get? b = some o → s'.heap.get? b = some o) → s'.gens = s.gens → s'.os = s.os → IntsAre vs ls → ls.Perm ns → Q' vs s') → wpAny (model prog w) A.in1 (collect x) Q' E' s)
    (h : ∀ (s1 : Shared) (h2 : Heap) (out : List Value) (n : Nat) (ls : List Int), (∀ b o, s.heap.get? b = some o → s1.heap.get? b = some o) → s1.gens = s.gens → s1.os = s.os → (∀ b o, s1.heap.get? b = some o → h2.get? b = some o) →
      h2.get? s1.heap.objs.size = some { cls := .type "list", data := .seq out.toArray n } → IntsAre out ls → ls.Perm ns → ls.Pairwise (· ≤ ·) → Q (.ref s1.heap.objs.size) { s1 with heap := h2 }) :
    wpAny (model prog w) A (call (.builtin "sorted") [x]) Q E s := by
  refine Calls.call_function_entry kind_sorted plain_sorted entry_sorted (args_sorted1 _) ?_
  unfold Builtin.«sorted»
  refine wpAny_bind (m := checkCount "sorted" 1 1 _) (wpAny_pure ?_)
  refine wpAny_bind (hc _ _ fun s1 vs ls k1 g1 o1 hi pm => ?_)
  have hl : vs.length = ns.length := by rw [hi.length, pm.length_eq]
  refine wpAny_bind (wpAny_newList ?_)
  have gL : (s1.heap.push (seqObj "list" vs.toArray 0)).get? s1.heap.objs.size = some (seqObj "list" vs.toArray 0) := Heap.get?_push_size _ rfl
  refine wpAny_bind (wpAny_holding (wpAny_call_entry slot_list_sort ⟨_, gL, rfl⟩ entry_list_sort (list_sort_tree gL hi (by omega) fun out ls' a1 a2 a3 => ⟨_, rfl, ?_⟩) (args_list_sort _)))
  refine wpAny_pure ⟨_, rfl, ?_⟩
  obtain ⟨e, ge⟩ := sortedHeap_at (out := out) gL
  have ge' : (sortedHeap (s1.heap.push (seqObj "list" vs.toArray 0)) s1.heap.objs.size vs out).get? s1.heap.objs.size = some { cls := .type "list", data := .seq out.toList.toArray e } := by
    rw [Array.toArray_toList]
    exact ge
  refine h s1 _ out.toList e ls' k1 g1 o1 (fun b o q1 => ?_) ge' a1 (a2.trans pm) a3
  have lb := Heap.lt_size q1
  rw [sortedHeap_old (Nat.ne_of_lt lb) (by rw [Heap.size_push]; exact Nat.lt_succ_of_lt lb)]
  exact Heap.get?_push_of_some _ q1
end
end STab
namespace L2
open PySem PySem.Spec PyProof.Rows

/-- a set of the ints ks (each once) stands at q -/
def setO (P : Program) (w : World) (q : Addr) (ks : List Int) : HO := .ext fun h => STab.SetI P w h q (STab.ledIn w) ks
section
variable {X : Cx} {pins : List (Addr × Obj)} {σ : St} {H : Hp} {s : Shared}
/-- behind a built-in that keeps all objects -/
theorem Inv.keptAll {s1 : Shared} (I : Inv X pins σ H s) (k : ∀ b o, s.heap.get? b = some o → s1.heap.get? b = some o) (eg : s1.gens = s.gens) (eo : s1.os = s.os) : Inv X pins σ H s1 :=
  I.call' (ch := []) eo (Un.kept k) (I.hok.kept k) (by rw [eg]; exact I.bare) (fun b z => absurd z (by simp))
theorem call_sorted_i (hc : X.calm = true) : CallR X (.builtin "sorted") (fun xs H Q => ∃ (p : Addr) (ns : List Int), xs = [.ref p] ∧ ns.length < 64 ∧ (SqL X.K H p (ns.map V.int) ∨ SqT X.K H p (ns.map V.int) ∨ H p = some (setO X.prog X.w p ns)) ∧
    ∀ (l : Addr) (ls : List Int), H l = none → ls.Perm ns → ls.Pairwise (· ≤ ·) → Q (.ref l) (upd H l (.lst (ls.map V.int)))) := by
  intro pins s σ H xs us Q I r h
  obtain ⟨p, ns, rfl, small, hq, q⟩ := h
  obtain ⟨u, rfl, ru⟩ := vals1 r
  cases ru
  have calm : X.A.in1.handled = none := I.ok.hd hc
  refine STab.sorted_by (ns := ns) small (fun Q' E' k => ?_) fun s1 h2 out n ls k1 g1 o1 k2 gL hi pm pw => ?_
  · rcases hq with hq | hq | hq
    · obtain ⟨its, rv, pl, hz⟩ := I.list hq
      obtain ⟨o, n, ho, hcl, _, hd⟩ := pl
      exact wpAny_collect_seq p (.inl rfl) ho hcl hd (fun h' kk => k _ _ ns kk rfl rfl (by simpa using intsAre_of rv) (List.Perm.refl _)) (by rw [List.size_toArray, ← rv.length]; exact hz)
    · obtain ⟨its, rv, pl, hz⟩ := I.tuple hq
      obtain ⟨o, ho, hcl, n, hd⟩ := pl
      exact wpAny_collect_seq p (.inr rfl) ho hcl hd (fun h' kk => k _ _ ns kk rfl rfl (by simpa using intsAre_of rv) (List.Perm.refl _)) (by rw [List.size_toArray, ← rv.length]; exact hz)
    · obtain ⟨x, _, _⟩ := I.hok p _ hq
      exact STab.collect_set calm x (by omega) fun s' vs ls kk eg eo hi pm => k s' vs ls kk eg eo hi pm
  · have I1 := I.keptAll k1 g1 o1
    have hf : H s1.heap.objs.size = none := I1.hok.fresh (Nat.le_refl _)
    refine ⟨.ref s1.heap.objs.size, _, I1.laid (t' := s1.toks) k2 (Nat.le_refl _) ?_, rfl, q _ ls hf pm pw⟩
    refine ⟨?_, out, n, vals_ints hi, gL⟩
    rw [List.length_map, pm.length_eq]
    exact Nat.le_trans (Nat.le_of_lt small) (by decide)
end
end L2
namespace L2
open PySem PySem.Spec PyProof.Rows

/-- lo, lo + 1, .. below hi -/
def rngL (lo hi : Int) : List Int := (List.range (hi - lo).toNat).map fun (i : Nat) => lo + (i : Int)
section
variable {X : Cx}
theorem call_range1 : CallR X (.type "range") (fun xs H Q => ∃ j : Int, xs = [.int j] ∧ ∀ q, H q = none → Q (.ref q) (upd H q (.rng 0 j))) := by
  intro pins s σ H xs us Q I r h
  obtain ⟨j, rfl, q⟩ := h
  obtain ⟨u, rfl, t, rfl⟩ := vals1 r
  refine call_range_1 ⟨.ref s.heap.objs.size, _, I.laid (fun _ _ e => Heap.get?_push_of_some _ e) (Nat.le_refl _) ?_, rfl, q _ (I.hok.fresh (Nat.le_refl _))⟩
  exact ⟨_, _, _, Heap.get?_push_size _ rfl⟩
theorem rng_small {lo hi : Int} (h1 : -1000000 ≤ lo) (h2 : hi ≤ 1000000) (h3 : lo ≤ 1000000) (h4 : -1000000 ≤ hi) : Builtin.Range.small lo hi 1 = true ∧ Builtin.Range.rangeSize lo hi 1 = ((hi - lo).toNat : Nat) := by
  refine ⟨small_one (by omega) (by omega) (by omega) (by omega), ?_⟩
  rw [rangeSize_one]; split <;> omega
theorem ints_range {lo : Int} {acc : Array Value} {n : Nat} (items : ItemsOf (fun i v => ∃ t, v = Value.int (lo + (i : Int) * 1) t) acc n) : IntsAre acc.toList ((List.range n).map fun (i : Nat) => lo + (i : Int)) := by
  have go : ∀ (m : Nat) (xs : List Value), xs.length = m → (∀ (j : Nat) (v : Value), xs[j]? = some v → ∃ t, v = Value.int (lo + (j : Int) * 1) t) → IntsAre xs ((List.range m).map fun (i : Nat) => lo + (i : Int)) := by
    intro m
    induction m with
    | zero =>
      intro xs e _
      have : xs = [] := List.length_eq_zero_iff.mp e
      subst this
      exact .nil
    | succ m ih =>
      intro xs e g
      have hne : xs ≠ [] := fun z => by rw [z] at e; cases e
      have es : xs = xs.dropLast ++ [xs.getLast hne] := (List.dropLast_concat_getLast hne).symm
      have dl : xs.dropLast.length = m := by rw [List.length_dropLast, e]; rfl
      obtain ⟨t, et⟩ := g m (xs.getLast hne) (by rw [List.getLast_eq_getElem]; simp [e])
      have ih' := ih xs.dropLast dl fun j v hv => g j v (by
        rw [es, List.getElem?_append_left (by have := (List.getElem?_eq_some_iff.mp hv).1; exact this)]
        exact hv)
      rw [es, et, List.range_succ, List.map_append]
      have cat : ∀ {a b : List Value} {x y : List Int}, IntsAre a x → IntsAre b y → IntsAre (a ++ b) (x ++ y) := by
        intro a b x y p q
        induction p with
        | nil => exact q
        | cons n t _ ih2 => exact .cons n t ih2
      refine cat ih' ?_
      rw [Int.mul_one]
      exact .cons _ t .nil
  exact go n acc.toList (by rw [Array.length_toList]; exact items.1) fun j v hv => items.2 j v (by rw [← Array.getElem?_toList]; exact hv)
theorem call_list_rng (hc : X.calm = true) : CallR X (.type "list") (fun xs H Q => ∃ (p : Addr) (lo hi : Int), xs = [.ref p] ∧ H p = some (.rng lo hi) ∧ (-1000 ≤ lo ∧ lo ≤ 1000 ∧ -1000 ≤ hi ∧ hi ≤ 1000 ∧ hi - lo ≤ 1000) ∧ ∀ q, H q = none → Q (.ref q) (upd H q (.lst ((rngL lo hi).map V.int)))) := by
  intro pins s σ H xs us Q I r h
  obtain ⟨p, lo, hi, rfl, hp, ⟨b1, b2, b3, b4, b5⟩, q⟩ := h
  obtain ⟨u, rfl, rx⟩ := vals1 r
  cases rx
  obtain ⟨t, u, v, e⟩ := I.hok p _ hp
  have sm := rng_small (lo := lo) (hi := hi) (by omega) (by omega) (by omega) (by omega)
  refine call_list_range (I.ok.hd hc) (show IsRange s.heap p lo hi 1 t u v from e) sm.1 sm.2 (by omega) fun h' tk acc c k hL items => ?_
  have hl : ((rngL lo hi).map V.int).length ≤ sizeLine := by
    rw [List.length_map]; unfold rngL; rw [List.length_map, List.length_range]
    exact Nat.le_trans (show (hi - lo).toNat ≤ 1000 by omega) (by decide)
  exact ⟨.ref s.heap.objs.size, _, I.laid (t' := tk) k (Nat.le_refl _) (show ObjOk X.prog X.w _ _ _ (.lst _) from ⟨hl, acc.toList, c, vals_ints (ints_range items), by simpa using hL⟩), rfl, q _ (I.hok.fresh (Nat.le_refl _))⟩
end
end L2
namespace L2
open PySem PySem.Spec PyProof.Rows

def rLen (K : PySem.W.Frag) : List V → Hp → VK → Prop := fun xs H Q => ∃ p ys, xs = [.ref p] ∧ (SqL K H p ys ∨ SqT K H p ys) ∧ Q (.int ys.length) H
def rIsi (K : PySem.W.Frag) : List V → Hp → VK → Prop := fun xs H Q => ∃ x n ty b, xs = [x, .ty n] ∧ TyOf K H x ty ∧ PySem.W.kitOne K ty (.type n) = some b ∧ Q (.bl b) H
section
variable {X : Cx} {K : PySem.W.Frag}
theorem kix_list (h : X.K = K) : IxR X (rIxL K) := h ▸ ix_list
theorem kix_tup (h : X.K = K) : IxR X (rIxT K) := h ▸ ix_tup
theorem kcall_len (h : X.K = K) : CallR X (.builtin "len") (rLen K) := h ▸ call_len_seq
theorem kcall_isi (h : X.K = K) : CallR X (.builtin "isinstance") (rIsi K) := h ▸ call_isinst
end
end L2
namespace HT
open PySem PySem.Spec PyProof.Rows
section
variable {prog : Program} {w : World} {A : Around} {E : Value → Shared → Prop} {s : Shared}
/-- t[a:b], the whole -/
theorem getItem_tuple_whole {t sl : Addr} {items : Array Value} {vl vu : Value} {lo hi : Option Int} {Q : Value → Shared → Prop} (ht : IsTup s.heap t items) (hs : s.heap.IsSliceOf sl vl vu .none) (pl : IsPart vl lo) (pu : IsPart vu hi)
    (hw : sIx items.size 0 lo = 0 ∧ sIx items.size items.size hi = items.size) (h : Q (.ref t) s) : wpAny (model prog w) A (getItem (.ref t) (.ref sl)) Q E s := by
  obtain ⟨os, hos, hcs, hds⟩ := id hs
  have hTs : s.TypeIs (.ref sl) "slice" := ⟨os, hos, hcs⟩
  unfold getItem
  try with_reducible refine wpAny_holding ?_
  first | refine wpAny_bind (wpAny_pure ?_) | skip
  refine wpAny_bind (wpAny_sequenceKey ht.typeIs (by decide) ?_)
  refine wpAny_bind (wpAny_callSpecial?_slot (name := Str.ofString "__getitem__") ht.typeIs PyProof.Rows.slot_tuple_getitem
    (wpAny_call_entry PyProof.Rows.slot_tuple_getitem ht.typeIs entry_tuple_getitem ?_ (args_tuple_getitem _ _)))
  show wpAny _ _ (Builtin.Tuple.tupleItemsOf (.ref t) >>= _) _ _ s
  refine wpAny_bind (tupleItemsOf_ ht ?_)
  refine wpAny_bind (wpAny_typeOf hTs ?_)
  rw [if_pos (by decide)]
  refine wpAny_bind (sliceApplied_gen hs pl pu ?_)
  have hyes : (((sIx items.size 0 lo : Nat) : Int) == 0 && (1 : Int) == 1 && (sIx items.size items.size hi - sIx items.size 0 lo) == items.size) = true := by
    rw [hw.1, hw.2]
    simp
  show wpAny _ _ (if (((sIx items.size 0 lo : Nat) : Int) == 0 && (1 : Int) == 1 && (sIx items.size items.size hi - sIx items.size 0 lo) == items.size) = true then _ else _) _ _ s
  rw [if_pos hyes]
  refine wpAny_bind (m := Builtin.Tuple.tupleIsExact (.ref t)) ?_
  unfold Builtin.Tuple.tupleIsExact
  refine wpAny_bind (wpAny_typeOf ht.typeIs (wpAny_pure ?_))
  first
    | (rw [if_pos (by decide)]
       exact wpAny_bind (wpAny_rule (wpAny_pure ⟨_, rfl, wpAny_pure h⟩)))
    | (show wpAny _ _ (if (Value.type "tuple" == Value.type "tuple") = true then _ else _) _ _ s
       rw [if_pos (by decide)]
       refine wpAny_bind (wpAny_rule ?_)
       first
         | exact wpAny_pure ⟨_, rfl, wpAny_pure h⟩
         | exact wpAny_bind (wpAny_pure (wpAny_pure ⟨_, rfl, wpAny_pure h⟩))
         | exact wpAny_bind (wpAny_pure ⟨_, rfl, wpAny_pure h⟩))
/-- () + u -/
theorem cat_tup0 {t b : Addr} {ws : List Value} {Q : Value → Shared → Prop} (ht : IsTup s.heap t ([] : List Value).toArray) (hb : IsTup s.heap b ws.toArray)
    (h1 : Q (.ref b) s) : wpAny (model prog w) A (binaryOp .Add (.ref t) (.ref b)) Q E s := by
  obtain ⟨⟨cls, dd, data, sl⟩, ho, hc, n, hd⟩ := id ht
  obtain ⟨⟨cls2, dd2, data2, sl2⟩, ho2, hc2, n2, hd2⟩ := id hb
  simp only at hc hd hc2 hd2
  subst hc hd hc2 hd2
  have mt : Meets (Builtin.«tuple.__add__» ⟨[.ref t, .ref b], []⟩) (fun _ R s => s.heap.get? t = some { cls := .type "tuple", dict := dd, data := .seq ([] : List Value).toArray n, slots := sl } ∧ s.heap.get? b = some { cls := .type "tuple", dict := dd2, data := .seq ws.toArray n2, slots := sl2 } ∧ R (.ok (.ret (Value.ref b))) s) :=
    .of_wp fun prog w A R s h => by
      obtain ⟨hp, g, d, tk, os⟩ := s
      obtain ⟨hl, hb, h⟩ := h
      have f1 := AutoSeq1.sub_tuple_tuple
      wp_walk using AutoSeq1.wpAny_loadPart' hl, AutoSeq1.wpAny_loadPart' hb
      exact ⟨_, rfl, h⟩
  exact concat_meets ⟨_, ho, rfl⟩ ⟨_, ho2, rfl⟩ noFill_tuple_add seq_tuple_add PySem.F.slot_tuple_add PySem.F.entry_tuple_add (PySem.F.args_tuple_add_2 _ _) mt ⟨ho, ho2, h1⟩
end
end HT
namespace L2
open PySem PySem.Spec PyProof.Rows
section
variable {X : Cx}
/-- t[a:b] of a made tuple: itself or a new one -/
def rSlS : V → Option Int → Option Int → Hp → VK → Prop := fun x lo hi H Q => ∃ a xs, x = .ref a ∧ H a = some (.tup xs) ∧ ∀ p H', Same H H' → H' p = some (.tup (cutV xs lo hi)) → Q (.ref p) H'
theorem sl_tupS : SlR X rSlS := by
  intro pins s σ H x v vl vu lo hi sl Q I rx hs pl pu h
  obtain ⟨a, xs, rfl, hx, q⟩ := h
  by_cases hw : HT.sIx xs.length 0 lo = 0 ∧ HT.sIx xs.length xs.length hi = xs.length
  · cases rx
    obtain ⟨its, r, ht, hz⟩ := I.tuple (SqT.of hx)
    have hlen : its.toArray.size = xs.length := by rw [List.size_toArray]; exact r.length.symm
    refine ⟨"tuple", _, PyProof.Rows.slot_tuple_getitem.lookup, ht.typeIs, ?_⟩
    refine HT.getItem_tuple_whole ht hs pl pu (by rw [hlen]; exact hw) ⟨.ref a, H, I, rfl, q a H (Same.refl _) ?_⟩
    have e : cutV xs lo hi = xs := by
      unfold cutV
      rw [hw.1, hw.2, List.drop_zero, Nat.sub_zero, List.take_length]
    rw [e]
    exact hx
  · exact sl_tup pins s σ H _ v vl vu lo hi sl Q I rx hs pl pu ⟨a, xs, rfl, SqT.of hx, hw, fun p p0 => q p _ (Same.new p0) upd_same⟩
/-- t + u of made tuples -/
def rCatS : R2 := fun x y H Q => ∃ a b xs ys, x = .ref a ∧ y = .ref b ∧ H a = some (.tup xs) ∧ H b = some (.tup ys) ∧ xs.length + ys.length ≤ sizeLine ∧ ∀ p H', Same H H' → H' p = some (.tup (xs ++ ys)) → Q (.ref p) H'
theorem op_catS : OpR X (binaryOp .Add) rCatS := by
  intro pins s σ H x y v u Q I rx ry h
  obtain ⟨a, b, xs, ys, rfl, rfl, ha, hb, hz, q⟩ := h
  by_cases hx : xs = []
  · subst hx
    cases rx
    cases ry
    obtain ⟨its, r1, p1, _⟩ := I.tuple (SqT.of ha)
    obtain ⟨its2, r2, p2, _⟩ := I.tuple (SqT.of hb)
    have e : its = [] := r1.nil_iff.mpr rfl
    subst e
    exact HT.cat_tup0 p1 p2 ⟨.ref b, H, I, rfl, q b H (Same.refl _) hb⟩
  · exact op_catT pins s σ H _ _ v u Q I rx ry ⟨a, b, xs, ys, rfl, rfl, SqT.of ha, SqT.of hb, hx, hz, fun e => q a H (Same.refl _) (by rw [e, List.append_nil]; exact ha), fun _ p p0 => q p _ (Same.new p0) upd_same⟩
theorem cut_front (xs : List V) (k : Nat) : cutV xs none (some (k : Int)) = xs.take k := by
  unfold cutV
  rw [HT.sIx_none, HT.sIx_nat, List.drop_zero, Nat.sub_zero]
  by_cases h : k ≤ xs.length
  · rw [Nat.min_eq_left h]
  · rw [Nat.min_eq_right (by omega), List.take_length, List.take_of_length_le (by omega)]
end
end L2
namespace L2
open PySem PySem.Spec PyProof.Rows
/-- a comprehension over a list of things that stand beside what they mean -/
theorem comp_prd {α γ : Type} {K : PySem.W.Frag} {js : List Nat} {tc : TT} {te : TE} {σ : St} {H : Hp} {Fin : Addr → Hp → Prop} {a : Addr} (ws : List V) (cs : List α) (R : Hp → V → α → Prop) (p : α → Bool) (f : α → γ) (R2 : Hp → V → γ → Prop)
    (mono : ∀ H1 H2 v c, TupKeep H1 H2 → R H1 v c → R H2 v c) (mono2 : ∀ H1 H2 v c, TupKeep H1 H2 → R2 H1 v c → R2 H2 v c)
    (hS : SqL K H a ws) (pr : Paired (R H) ws cs)
    (ht : ∀ v c H', c ∈ cs → R H' v c → Same H H' → ∀ Q2 : Bool → Hp → Prop, (∀ H3, Same H' H3 → Q2 (p c) H3) → tc (blkSt js σ (some v)) H' Q2)
    (he : ∀ v c H', c ∈ cs → R H' v c → p c = true → Same H H' → ∀ Q2 : VK, (∀ y H4, Same H' H4 → R2 H4 y (f c) → Q2 y H4) → te (blkSt js σ (some v)) H' Q2)
    (hn : cs.length ≤ sizeLine)
    (hd : ∀ D us H', H D = none → Same H H' → H' D = some (.lst us) → Paired (R2 H') us ((cs.filter p).map f) → Fin D H') : CompBy js tc te σ (Itl K a) H Fin := by
  have key : ∀ {ws : List V} {cs : List α}, Paired (R H) ws cs → ∃ bs : List (V × α), bs.map (·.1) = ws ∧ bs.map (·.2) = cs ∧ ∀ b ∈ bs, R H b.1 b.2 := by
    intro ws cs pr
    induction pr with
    | nil => exact ⟨[], rfl, rfl, fun b hb => by cases hb⟩
    | cons r _ ih =>
      obtain ⟨bs, h1, h2, h3⟩ := ih
      refine ⟨(_, _) :: bs, by rw [List.map_cons, h1], by rw [List.map_cons, h2], fun b hb => ?_⟩
      rcases List.mem_cons.mp hb with rfl | hb
      · exact r
      · exact h3 b hb
  obtain ⟨bs, h1, h2, h3⟩ := key pr
  subst h1; subst h2
  refine comp_grow bs (·.1) (fun b => p b.2) (fun b => f b.2) R2 mono2 (it_list bs (·.1) hS) (fun b H' hb s Q2 h => ht b.1 b.2 H' (List.mem_map_of_mem hb) (mono _ _ _ _ s.tk (h3 b hb)) s Q2 h) (fun b H' hb hp s Q2 h => he b.1 b.2 H' (List.mem_map_of_mem hb) (mono _ _ _ _ s.tk (h3 b hb)) hp s Q2 h) (by simpa using hn) fun D us H' hD s hL pr2 => hd D us H' hD s hL ?_
  have e : ((bs.map (·.2)).filter p).map f = (bs.filter fun b => p b.2).map fun b => f b.2 := by
    rw [List.filter_map, List.map_map]
    rfl
  rw [e]
  exact pr2
end L2
namespace L2
open PySem PySem.Spec PyProof.Rows
theorem two_le : 2 ≤ sizeLine := by decide
section
variable {X : Cx} {pins : List (Addr × Obj)} {σ : St} {H : Hp} {s : Shared}
/-- the iterator's objects have turned, a new object is laid and tracked -/
theorem Inv.turnedNew {fp : List Addr} {T : Addr} {o : HO} {h' : Heap} {t' : Nat} (I : Inv X pins σ H s) (k : ∀ b o, b ∉ fp → s.heap.get? b = some o → h'.get? b = some o) (hf : ∀ b ∈ fp, FpOk X pins H b) (hT : s.heap.objs.size ≤ T)
    (new : ObjOk X.prog X.w (upd H T o) h' T o) : Inv X pins σ (upd H T o) { s with heap := h', toks := t' } := by
  have nT : H T = none := I.hok.fresh hT
  have neT : ∀ b ob, s.heap.get? b = some ob → b ≠ T := fun b ob e z => by
    have := Heap.lt_size e
    rw [z] at this
    exact absurd (Nat.lt_of_lt_of_le this hT) (Nat.lt_irrefl _)
  have up : ∀ b u, H b = some u → upd H T o b = some u := fun b u e => by
    rw [upd_ne (fun z => by rw [z, nT] at e; cases e)]
    exact e
  refine I.step (g' := s.gens) (d' := s.drawn) (ch := fp) (fun b hb => ?_) (fun b ob _ _ hc e _ => k b ob hc e) (fun b ob _ _ hc e _ => ⟨ob.slots, k b ob hc e⟩) (fun b ob _ e n => by rw [upd_ne (neT b ob e)]; exact n)
    (fun b ob hc e => ⟨ob, k b ob hc e⟩) (fun b xs e => up b _ e) (fun b ob u e => up b _ e) (fun b ps e => ⟨#[], by rw [up b _ e]; simp⟩) (fun m hm => ?_) (fun b u e => ?_) I.bare
  · obtain ⟨f0, f1, f2, f3, f4, f5⟩ := hf b hb
    exact ⟨f3, f1, f4, f5⟩
  · obtain ⟨ob, es, ep, ho, r⟩ := hm
    exact ⟨ob, es, ep, k _ ob (fun z => (hf _ z).2.1 rfl) ho, r⟩
  · by_cases hb : b = T
    · subst hb
      rw [upd_same] at e
      cases e
      exact new
    · rw [upd_ne hb] at e
      refine (I.hok b u e).stay (fun c v hc q => k c v (fun z => ?_) q) (fun c q => up c _ q) fun c xs q => up c _ q
      rcases hc with z2 | z2
      · rw [z2] at z
        rw [(hf b z).1] at e
        cases e
      · rw [(hf c z).1] at z2
        cases z2
theorem Inv.turnedL {fp : List Addr} {h' : Heap} {t' : Nat} (I : Inv X pins σ H s) (k : ∀ b o, b ∉ fp → s.heap.get? b = some o → h'.get? b = some o) (hf : ∀ b ∈ fp, FpOk X pins H b) : Inv X pins σ H { s with heap := h', toks := t' } := by
  refine I.step (g' := s.gens) (d' := s.drawn) (ch := fp) (fun b hb => ?_) (fun b ob _ _ hc e _ => k b ob hc e) (fun b ob _ _ hc e _ => ⟨ob.slots, k b ob hc e⟩) (fun _ _ _ _ n => n)
    (fun b ob hc e => ⟨ob, k b ob hc e⟩) (fun _ _ e => e) (fun _ _ _ e => e) (fun b ps e => ⟨#[], by rw [e]; simp⟩) (fun m hm => ?_) (fun b u e => ?_) I.bare
  · obtain ⟨f0, f1, f2, f3, f4, f5⟩ := hf b hb
    exact ⟨f3, f1, f4, f5⟩
  · obtain ⟨ob, es, ep, ho, r⟩ := hm
    exact ⟨ob, es, ep, k _ ob (fun z => (hf _ z).2.1 rfl) ho, r⟩
  · refine (I.hok b u e).stay (fun c v hc q => k c v (fun z => ?_) q) (fun _ q => q) fun _ _ q => q
    rcases hc with z2 | z2
    · rw [z2] at z
      rw [(hf b z).1] at e
      cases e
    · rw [(hf c z).1] at z2
      cases z2
end
section
variable {X : Cx}
/-- sum(xs), a list of ints -/
theorem call_sum (hc : X.calm = true) : CallR X (.builtin "sum") (fun xs H Q => ∃ (p : Addr) (ns : List Int), xs = [.ref p] ∧ SqL X.K H p (ns.map V.int) ∧ Q (.int ns.sum) H) := by
  intro pins s σ H xs us Q I r h
  obtain ⟨p, ns, rfl, hq, q⟩ := h
  obtain ⟨u, rfl, ru⟩ := vals1 r
  cases ru
  obtain ⟨its, rv, pl, hz⟩ := I.list hq
  have hi : IntsAre its ns := intsAre_of rv
  obtain ⟨xs, ex⟩ := hi.allInts.items
  have hl := pl.isList
  rw [ex] at hl
  refine sum_intListG (I.ok.hd hc) hl fun h' tk t' k => ⟨.int ns.sum, H, I.kept k, ⟨t', ?_⟩, q⟩
  have e1 : xs.toList.map (·.1) = ns := by rw [← nums_intItems, ← ex, ← hi.numsOf]
  rw [preSum_eq, List.take_of_length_le (by simp), e1]
end
end L2
namespace My
open PySem L2

theorem mod_lo (x : Int) {n : Int} (h : 0 < n) : 0 ≤ x % n := Int.emod_nonneg x (by omega)
theorem mod_hi (x : Int) {n : Int} (h : 0 < n) : x % n < n := Int.emod_lt_of_pos x h
theorem mod_zero_of {x n : Int} (k : Int) (h : x = n * k) : x % n = 0 := by rw [h]; exact Int.mul_emod_right n k
theorem mod_split (x n : Int) : x = n * (x / n) + x % n := (Int.mul_ediv_add_emod x n).symm
theorem mod_of {x n r : Int} (k : Int) (h : x = n * k + r) (h0 : 0 ≤ r) (h1 : r < n) : x % n = r := by
  rw [h, Int.add_comm, Int.add_mul_emod_self_left]; exact Int.emod_eq_of_lt h0 h1
theorem back_of (d : Int) {n : Int} (h : 0 < n) : (-d) % n = if d % n = 0 then 0 else n - d % n := by
  have e := mod_split d n
  have l := mod_lo d h
  have u := mod_hi d h
  split
  · refine mod_zero_of (-(d / n)) ?_
    rw [Int.mul_neg]; omega
  · refine mod_of (-(d / n) - 1) ?_ (by omega) (by omega)
    rw [Int.mul_sub, Int.mul_neg, Int.mul_one]; omega
theorem back_of' (a b : Int) {n : Int} (h : 0 < n) : (a - b) % n = if (b - a) % n = 0 then 0 else n - (b - a) % n := by
  have e : a - b = -(b - a) := by omega
  rw [e]; exact back_of _ h
theorem emod_eq {x y n : Int} (k : Int) (h : x - y = n * k) : x % n = y % n := by
  have e : x = y + n * k := by omega
  rw [e, Int.add_mul_emod_self_left]
theorem two_fit : 2 ≤ sizeLine := by decide

def rng (n : Int) : List Int := (List.range n.toNat).map fun (i : Nat) => 0 + (i : Int)
theorem rng_len (n : Int) : (rng n).length = n.toNat := by simp [rng]
theorem rng_get (n : Int) {i : Nat} (h : i < n.toNat) : (rng n)[i]? = some (0 + (i : Int)) := by
  unfold rng
  rw [List.getElem?_map, List.getElem?_range h]
  rfl
theorem filter_all {α : Type} (l : List α) : l.filter (fun _ => true) = l := by simp

theorem rngL0 (n : Int) : rngL 0 n = rng n := by simp [rngL, rng]
theorem rng_mem {n x : Int} : x ∈ rng n ↔ 0 ≤ x ∧ x < n := by
  unfold rng
  rw [List.mem_map]
  constructor
  · rintro ⟨i, hi, rfl⟩
    have := List.mem_range.mp hi
    omega
  · rintro ⟨h0, h1⟩
    exact ⟨x.toNat, List.mem_range.mpr (by omega), by omega⟩
theorem pw_range (n : Nat) : ((List.range n).map fun (i : Nat) => (0 : Int) + (i : Int)).Pairwise (· < ·) := by
  rw [List.pairwise_map]
  exact List.Pairwise.imp (fun h => by omega) List.pairwise_lt_range
theorem rng_pw (n : Int) : (rng n).Pairwise (· < ·) := pw_range _
/-- two rising lists with the same items are one -/
theorem srt_ext : ∀ {a b : List Int}, a.Pairwise (· < ·) → b.Pairwise (· < ·) → (∀ x, x ∈ a ↔ x ∈ b) → a = b
  | [], [], _, _, _ => rfl
  | [], y :: b, _, _, h => by have := (h y).mpr (List.mem_cons_self ..); cases this
  | x :: a, [], _, _, h => by have := (h x).mp (List.mem_cons_self ..); cases this
  | x :: a, y :: b, pa, pb, h => by
    rw [List.pairwise_cons] at pa pb
    have e : x = y := by
      rcases List.mem_cons.mp ((h x).mp (List.mem_cons_self ..)) with e | e
      · exact e
      · rcases List.mem_cons.mp ((h y).mpr (List.mem_cons_self ..)) with e2 | e2
        · exact e2.symm
        · have := pb.1 x e
          have := pa.1 y e2
          omega
    subst e
    rw [srt_ext pa.2 pb.2 fun z => ?_]
    constructor
    · intro hz
      rcases List.mem_cons.mp ((h z).mp (List.mem_cons_of_mem _ hz)) with e | e
      · subst e
        have := pa.1 z hz
        omega
      · exact e
    · intro hz
      rcases List.mem_cons.mp ((h z).mpr (List.mem_cons_of_mem _ hz)) with e | e
      · subst e
        have := pb.1 z hz
        omega
      · exact e
theorem lt_of_le_nodup : ∀ {a : List Int}, a.Pairwise (· ≤ ·) → a.Nodup → a.Pairwise (· < ·)
  | [], _, _ => .nil
  | x :: a, h, d => by
    rw [List.pairwise_cons] at h
    rw [List.nodup_cons] at d
    refine List.Pairwise.cons (fun y hy => ?_) (lt_of_le_nodup h.2 d.2)
    have := h.1 y hy
    have : x ≠ y := fun e => d.1 (by rw [e]; exact hy)
    omega
theorem erase_map {α β : Type} (f : α → β) : ∀ (l : List α) (i : Nat), (l.map f).eraseIdx i = (l.eraseIdx i).map f
  | [], _ => rfl
  | _ :: _, 0 => rfl
  | x :: l, i + 1 => by
    show f x :: (l.map f).eraseIdx i = f x :: (l.eraseIdx i).map f
    rw [erase_map f l i]
theorem seq_ix {j : Int} {n : Nat} (h0 : 0 ≤ j) (h1 : j < n) : seqIndex? j n = some j.toNat := by
  unfold seqIndex?
  have e : ¬ j < 0 := by omega
  simp only [e, if_false]
  rw [if_pos (by rw [decide_eq_true h0, decide_eq_true h1]; rfl)]
/-- the crowd of a test -/
def cw (n : Int) (p : Int → Bool) : List Int := (rng n).filter p
theorem cw_pw (n : Int) (p : Int → Bool) : (cw n p).Pairwise (· < ·) := (rng_pw n).filter _
theorem cw_mem {n x : Int} {p : Int → Bool} : x ∈ cw n p ↔ (0 ≤ x ∧ x < n) ∧ p x = true := by
  unfold cw
  rw [List.mem_filter, rng_mem]
theorem cw_len (n : Int) (p : Int → Bool) : (cw n p).length ≤ n.toNat := by
  have := List.length_filter_le p (rng n)
  rw [rng_len] at this
  exact this
/-- a rising list of tones is a crowd -/
theorem cw_of {n : Int} {xs : List Int} (h : xs.Pairwise (· < ·)) (hm : ∀ x ∈ xs, 0 ≤ x ∧ x < n) : xs = cw n fun x => decide (x ∈ xs) :=
  srt_ext h (cw_pw _ _) fun x => by
    rw [cw_mem]
    simp only [decide_eq_true_eq]
    exact ⟨fun e => ⟨hm x e, e⟩, fun e => e.2⟩
theorem fit1000 {k : Nat} (h : k ≤ 1000) : k ≤ sizeLine := Nat.le_trans h (by decide)
theorem fit999 {k : Nat} (h : k ≤ 999) : k < sizeLine := Nat.lt_of_le_of_lt h (by decide)
/-- a rising list of tones -/
def Tones (n : Int) (cs : List Int) : Prop := cs.Pairwise (· < ·) ∧ ∀ x ∈ cs, 0 ≤ x ∧ x < n
theorem cw_tones (n : Int) (f : Int → Bool) : Tones n (cw n f) := ⟨cw_pw n f, fun _ hx => (cw_mem.mp hx).1⟩
theorem Tones.cw {n : Int} {cs : List Int} (h : Tones n cs) : cs = cw n fun x => decide (x ∈ cs) := cw_of h.1 h.2
theorem Tones.len {n : Int} {cs : List Int} (h : Tones n cs) : cs.length ≤ n.toNat := by
  rw [h.cw]; exact cw_len _ _
end My
namespace L2
open PySem
/-- a comprehension of ints -/
theorem comp_int {β : Type} {js : List Nat} {tc : TT} {te : TE} {σ : St} {H : Hp} {Fin : Addr → Hp → Prop} {J : It} (bs : List β) (val : β → V) (p : β → Bool) (f : β → Int)
    (hJ : ∀ H', Same H H' → (∀ i b, bs[i]? = some b → J.go i H' ∧ ∀ v H2, J.yld i H' v H2 → v = val b ∧ H2 = H') ∧ J.stop bs.length H')
    (ht : ∀ b H', b ∈ bs → Same H H' → ∀ Q2 : Bool → Hp → Prop, (∀ H3, Same H' H3 → Q2 (p b) H3) → tc (blkSt js σ (some (val b))) H' Q2)
    (he : ∀ b H', b ∈ bs → p b = true → Same H H' → ∀ Q2 : VK, (∀ H4, Same H' H4 → Q2 (.int (f b)) H4) → te (blkSt js σ (some (val b))) H' Q2)
    (hn : bs.length ≤ sizeLine)
    (hd : ∀ D H', H D = none → Same H H' → H' D = some (.lst (((bs.filter p).map f).map V.int)) → Fin D H') : CompBy js tc te σ J H Fin :=
  comp_grow bs val p f (fun _ v c => v = .int c) (fun _ _ _ _ _ r => r) hJ ht (fun b H' hb hp s Q2 h => he b H' hb hp s Q2 fun H4 s4 => h _ H4 s4 rfl) hn
    fun D ws H' h0 s hL pr => hd D H' h0 s (by rw [hL, prd_map pr])
end L2
namespace My
open PySem L2
def dist (n a b : Int) : Int := if (a - b) % n < (b - a) % n then (a - b) % n else (b - a) % n
def TupR (H : Hp) (v : V) (k : List Int) : Prop := ∃ r, v = .ref r ∧ H r = some (.tup (k.map V.int))
theorem TupR.mono {H1 H2 : Hp} {v : V} {k : List Int} (t : TupKeep H1 H2) (r : TupR H1 v k) : TupR H2 v k := let ⟨p, e, h⟩ := r; ⟨p, e, t _ _ h⟩
theorem new_all {H : Hp} {D : Addr} {o : HO} (h : H D = none) : Same H (upd H D o) ∧ upd H D o D = some o := ⟨Same.new h, upd_same⟩
end My
namespace My
open PySem L2
theorem nodup_len2 {α : Type} [BEq α] [LawfulBEq α] : ∀ {a b : List α}, a.Nodup → (∀ x ∈ a, x ∈ b) → a.length ≤ b.length
  | [], _, _, _ => Nat.zero_le _
  | x :: a, b, d, h => by
    rw [List.nodup_cons] at d
    have hx := h x (List.mem_cons_self ..)
    have ih : a.length ≤ (b.erase x).length := nodup_len2 d.2 fun y hy => by
      have hy' := h y (List.mem_cons_of_mem _ hy)
      exact (List.mem_erase_of_ne (fun e => d.1 (by rw [← e]; exact hy))).mpr hy'
    rw [List.length_erase_of_mem hx] at ih
    have := List.length_pos_of_mem hx
    rw [List.length_cons]
    omega
end My
namespace L2
open PySem PySem.Spec PyProof.Rows
/-- a way to read values: what is read is one thing, and two values are equal just where they are read alike -/
structure EqOk (K : PySem.W.Frag) (d : Nat) {α : Type} [DecidableEq α] (R : Hp → V → α → Prop) : Prop where
  fn : ∀ {H x a b}, R H x a → R H x b → a = b
  eq : ∀ {X : Cx} {A : Around} {pins : List (Addr × Obj)} {σ : List (Option V)} {H : Hp} {s : Shared} {x y : V} {v u : Value} {a b : α}, X.K = K → Inv X pins σ H s → RelV x v → RelV y u → R H x a → R H y b → A.units + d < cLine → SeqAt.EqAt A s v u (decide (a = b))
def IntR (_ : Hp) (x : V) (i : Int) : Prop := x = .int i
theorem eqok_int {K : PySem.W.Frag} : EqOk K 0 IntR where
  fn := by
    rintro H x a b h k
    cases h
    cases k
    rfl
  eq := by
    rintro X A pins σ H s x y v u a b hK I r r' h k hu
    cases h
    cases k
    have e : decide (a = b) = eqV (V.int a) (V.int b) := by
      rw [eqV_plain rfl rfl, Bool.eq_iff_iff]
      simp
    rw [e]
    exact eqAt_V r r' rfl rfl
theorem prd_fn {α : Type} {R : V → α → Prop} (f : ∀ x a b, R x a → R x b → a = b) : ∀ {xs : List V} {as bs : List α}, Paired R xs as → Paired R xs bs → as = bs
  | [], _, _, .nil, .nil => rfl
  | _ :: _, _, _, .cons r t, .cons r' t' => by rw [f _ _ _ r r', prd_fn f t t']
theorem prd_at {α : Type} {R : V → α → Prop} : ∀ {xs : List V} {as : List α} {i : Nat} {x : V}, Paired R xs as → xs[i]? = some x → ∃ a, as[i]? = some a ∧ R x a
  | [], _, _, _, .nil, e => by simp at e
  | _ :: _, _, 0, _, .cons r _, e => by simp at e; subst e; exact ⟨_, rfl, r⟩
  | _ :: _, _, i + 1, x, .cons _ t, e => by
    simp at e
    obtain ⟨a, h, r⟩ := prd_at t e
    exact ⟨a, by simpa using h, r⟩
/-- equal at every place and as long -/
theorem all_get {α : Type} [DecidableEq α] (as bs : List α) : ((List.range (min as.length bs.length)).all (fun j => decide (as[j]? = bs[j]?)) && as.length == bs.length) = decide (as = bs) := by
  rw [Bool.eq_iff_iff, Bool.and_eq_true, List.all_eq_true, beq_iff_eq, decide_eq_true_eq]
  constructor
  · rintro ⟨h, e⟩
    refine List.ext_getElem? fun j => ?_
    by_cases hj : j < as.length
    · exact of_decide_eq_true (h j (List.mem_range.mpr (by omega)))
    · rw [List.getElem?_eq_none (by omega), List.getElem?_eq_none (by omega)]
  · rintro rfl
    exact ⟨fun j _ => decide_eq_true rfl, rfl⟩
theorem all_get_same {α : Type} [DecidableEq α] {as bs : List α} (h : as.length = bs.length) : (List.range as.length).all (fun j => decide (as[j]? = bs[j]?)) = decide (as = bs) := by
  have := all_get as bs
  rw [← h, Nat.min_self, beq_self_eq_true, Bool.and_true] at this
  exact this
section
variable {K : PySem.W.Frag} {d : Nat} {α : Type} [DecidableEq α] {R : Hp → V → α → Prop}
theorem eqok_items (ok : EqOk K d R) {X : Cx} {A : Around} {pins : List (Addr × Obj)} {σ : List (Option V)} {H : Hp} {s : Shared} (hK : X.K = K) (I : Inv X pins σ H s) {xs ys : List V} {as bs : List α} {its its2 : List Value}
    (r : Vals xs its) (r2 : Vals ys its2) (pa : Paired (R H) xs as) (pb : Paired (R H) ys bs) (hu : A.units + d < cLine) :
    ∀ j (h1 : j < its.toArray.size) (h2 : j < its2.toArray.size), SeqAt.EqAt A s its.toArray[j] its2.toArray[j] (decide (as[j]? = bs[j]?)) := by
  intro j h1 h2
  have e1 := r.length
  have e2 := r2.length
  rw [List.size_toArray] at h1 h2
  have g1 : xs[j]? = some xs[j] := by simp
  have g2 : ys[j]? = some ys[j] := by simp
  obtain ⟨u, hu1, ru⟩ := r.get g1
  obtain ⟨v, hv1, rv⟩ := r2.get g2
  obtain ⟨a, ha, ra⟩ := prd_at pa g1
  obtain ⟨b, hb, rb⟩ := prd_at pb g2
  have z1 : its.toArray[j]'(by rw [List.size_toArray]; exact h1) = u := by
    obtain ⟨_, q⟩ := List.getElem?_eq_some_iff.mp hu1
    simpa using q
  have z2 : its2.toArray[j]'(by rw [List.size_toArray]; exact h2) = v := by
    obtain ⟨_, q⟩ := List.getElem?_eq_some_iff.mp hv1
    simpa using q
  rw [z1, z2, ha, hb]
  have e : decide (some a = some b) = decide (a = b) := by rw [Bool.eq_iff_iff]; simp
  rw [e]
  exact ok.eq hK I ru rv ra rb hu
/-- a tuple whose items are read by R -/
def TupOf (R : Hp → V → α → Prop) (H : Hp) (x : V) (as : List α) : Prop := ∃ p xs, x = .ref p ∧ H p = some (.tup xs) ∧ Paired (R H) xs as
theorem sizes {xs ys : List V} {as bs : List α} {its its2 : List Value} {P P' : V → α → Prop} (r : Vals xs its) (r2 : Vals ys its2) (pa : Paired P xs as) (pb : Paired P' ys bs) : its.toArray.size = as.length ∧ its2.toArray.size = bs.length := by
  rw [List.size_toArray, List.size_toArray, ← r.length, ← r2.length]
  exact ⟨prd_len pa, prd_len pb⟩
theorem eqok_tup (ok : EqOk K d R) : EqOk K (d + 1) (TupOf R) where
  fn := by
    rintro H x as bs ⟨p, xs, rfl, hp, pa⟩ ⟨p', xs', e, hp', pb⟩
    cases e
    rw [hp] at hp'
    cases hp'
    exact prd_fn (R := R H) (fun _ _ _ h k => ok.fn h k) pa pb
  eq := by
    rintro X A pins σ H s x y v u as bs hK I r r' ⟨p, xs, rfl, hp, pa⟩ ⟨p', ys, rfl, hp', pb⟩ hu
    cases r
    cases r'
    by_cases e : p = p'
    · subst e
      rw [hp] at hp'
      cases hp'
      rw [decide_eq_true (prd_fn (R := R H) (fun _ _ _ h k => ok.fn h k) pa pb)]
      exact SeqAt.EqAt.same _
    · obtain ⟨its, r1, p1, _⟩ := I.tuple (SqT.of hp)
      obtain ⟨its2, r2, p2, _⟩ := I.tuple (SqT.of hp')
      obtain ⟨z1, z2⟩ := sizes r1 r2 pa pb
      refine SeqAt.EqAt.of_refs e ?_
      have := SeqAt.RcAt.tuples (A := A) p1 p2 (by omega) (eqok_items (A := A.in1) ok hK I r1 r2 pa pb (by show A.units + 1 + d < cLine; omega))
      rw [z1, z2, all_get] at this
      exact this
variable {X : Cx}
def rEqLd (K : PySem.W.Frag) (R : Hp → V → α → Prop) (g : Bool → Bool) : R2 := fun x y H Q => ∃ a b xs ys as bs, x = .ref a ∧ y = .ref b ∧ SqL K H a xs ∧ SqL K H b ys ∧ Paired (R H) xs as ∧ Paired (R H) ys bs ∧ Q (.bl (g (decide (as = bs)))) H
theorem op_neLd (ok : EqOk X.K d R) (hd : d ≤ 60) (hu : X.A.units + 64 < cLine) : OpR X (compareOp .NotEq) (rEqLd X.K R fun b => !b) := by
  intro pins s σ H x y v u Q I rx ry h
  obtain ⟨a, b, xs, ys, as, bs, rfl, rfl, ha, hb, pa, pb, q⟩ := h
  cases rx; cases ry
  obtain ⟨its, r, p, hz⟩ := I.list ha
  obtain ⟨its2, r2, p2, hz2⟩ := I.list hb
  obtain ⟨z1, z2⟩ := sizes r r2 pa pb
  by_cases hs : its.toArray.size = its2.toArray.size
  · refine SeqAt.RcNeAt.lists p.isList p2.isList hs (by omega) (eqok_items (A := X.A.in1) ok rfl I r r2 pa pb (by show X.A.units + 1 + d < cLine; omega)) _ _ _ _ ⟨.bl _, H, I, rfl, ?_⟩
    rw [z1, all_get_same (by omega)]
    exact q
  · refine SeqAt.RcNeAt.lists_lengths p.isList p2.isList (by simpa using hs) (by omega) _ _ _ _ ⟨.bl _, H, I, rfl, ?_⟩
    rw [decide_eq_false (fun e => hs (by rw [z1, z2, e]))] at q
    exact q
end
end L2
namespace L2
open PySem PySem.Spec PyProof.Rows

structure BlkScope2 (osc : Scope) (N : List Str) (x z : Str) (ys : List Str) (js : List Nat) (sc : Scope) : Prop where
  kind : sc.kind = .function
  nocell : ∀ y ∈ sc.names, y.2 ≠ .cell
  loc : ∀ y ∈ sc.names, y.2 = .local → sc.names.lookup y.1 = some .local
  var : sc.names.lookup x = some .local
  var2 : sc.names.lookup z = some .local
  out : ∀ y ∈ sc.names, y.2 = .free → osc.names.lookup y.1 = some .cell ∨ osc.names.lookup y.1 = some .free
  free : ∀ y ∈ ys, sc.names.lookup y = some .free
  places : js.map (fun j => N[j]?) = ys.map some
  nd : (x :: z :: ys).Nodup
def blkSt2 (js : List Nat) (σ : St) (v v2 : Option V) : St := v :: v2 :: js.map fun j => σ.getD j none

section
variable {X : Cx} {pins : List (Addr × Obj)} {σ : St} {H : Hp} {s : Shared} {x z : Str} {ys : List Str} {js : List Nat} {sc : Scope} {cl : List (Str × Addr)} {fp : List Addr}
theorem blk_ok2 (I : Inv X pins σ H s) (S : BlkScope2 X.env.scope X.N x z ys js sc) (h1 : ∀ y c, cl.lookup y = some c → X.env.cells.lookup y = some c) (h2 : ∀ y ∈ sc.names, y.2 = .free → ∃ c, cl.lookup y.1 = some c)
    (hf : ∀ b ∈ fp, FpOk X pins H b) (hl : ∀ b ∈ fp, b < s.heap.objs.size) : (X.blk (x :: z :: ys) sc cl s.heap.objs.size s H fp).Ok where
  mod := I.ok.mod
  kind := S.kind
  glob := I.ok.glob
  blt := I.ok.blt
  above := Nat.le_refl _
  inj := fun y z c e1 e2 => I.ok.inj y z c (h1 y c e1) (h1 z c e2)
  has := fun y hy => h2 (y, .free) (relabel_back S.nocell hy) rfl
  cab := fun y c e => nomatch e
  hd := I.ok.hd
  frames := I.ok.frames
  stk := .inl rfl
  exf := fun b hb => ⟨Nat.ne_of_lt (hl b hb), fun y c e => (hf b hb).2.2.2.2.1 y c (h1 y c e)⟩
  bs := I.bs
  bsz := Nat.le_trans I.ok.bsz I.sz
  noex := fun b o e hb => by
    rcases (hf b hb).2.2.2.1 with z | z
    · exact I.ok.noex b o e z
    · exact absurd (Nat.lt_of_lt_of_le (Heap.lt_size e) (Nat.le_trans I.ok.bsz z)) (Nat.lt_irrefl _)
  exfs := fun b hb z => by
    rcases List.mem_cons.mp (I.stkSub b z) with q | q
    · exact (hf b hb).2.1 q
    · exact (hf b hb).2.2.1 q
  funs := I.stack
  frf := I.stkFree

theorem blk_start2 {h' : Heap} {t' : Nat} {m : Str → Option Value} (I : Inv X pins σ H s) (S : BlkScope2 X.env.scope X.N x z ys js sc) (h1 : ∀ y c, cl.lookup y = some c → X.env.cells.lookup y = some c) (h2 : ∀ y ∈ sc.names, y.2 = .free → ∃ c, cl.lookup y.1 = some c)
    (hf : ∀ b ∈ fp, FpOk X pins H b) (hl : ∀ b ∈ fp, b < s.heap.objs.size) (hn : h'.Ns s.heap.objs.size m) (hk : ∀ b o, s.heap.get? b = some o → h'.get? b = some o) :
    Inv (X.blk (x :: z :: ys) sc cl s.heap.objs.size s H fp) [] (blkSt2 js σ none none) H { s with heap := h', toks := t' } where
  ok := blk_ok2 I S h1 h2 hf hl
  os := rfl
  bare := I.bare
  base := Un.kept hk
  loc := ⟨m, hn, fun i y v e1 e2 e3 => by
    match i with
    | 0 => cases (show some (none : Option V) = some (some v) from e2)
    | 1 => cases (show some (none : Option V) = some (some v) from e2)
    | i + 2 =>
      have e1 : ys[i]? = some y := e1
      have e2 : (js.map fun j => σ.getD j none)[i]? = some (some v) := e2
      rw [List.getElem?_map] at e2
      cases ej : js[i]? with
      | none => rw [ej] at e2; cases e2
      | some j =>
        rw [ej] at e2
        have e2 : σ.getD j none = some v := Option.some.inj e2
        have e4 : σ[j]? = some (some v) := by
          cases q : σ[j]? with
          | none => rw [List.getD_eq_getElem?_getD, q] at e2; cases e2
          | some u => rw [List.getD_eq_getElem?_getD, q] at e2; rw [← e2]; rfl
        have e5 : X.N[j]? = some y := by
          have q := congrArg (fun l => l[i]?) S.places
          simp only [List.getElem?_map, ej, e1, Option.map_some] at q
          exact Option.some.inj q
        have e6 : (y, NameKind.free) ∈ sc.names := PySem.mem_of_lookup (S.free y (List.mem_of_getElem? e1))
        have e7 := S.out _ e6 rfl
        obtain ⟨m0, _, hl0⟩ := I.loc
        obtain ⟨u, r, lk⟩ := hl0 j y v e5 e4 (e7.elim (fun z => .inr (.inl z)) fun z => .inr (.inr z))
        refine ⟨u, r, .inr ⟨relabel_free (S.free y (List.mem_of_getElem? e1)), ?_⟩⟩
        rcases lk with ⟨k, _⟩ | ⟨_, c, ec, z⟩
        · have k : X.env.scope.names.lookup y = some .local := k
          rcases e7 with z | z <;> (rw [k] at z; cases z)
        · obtain ⟨c', ec'⟩ := h2 _ e6 rfl
          have q := h1 _ _ ec'
          have q : X.env.cells.lookup y = some c' := q
          rw [ec] at q; cases q
          obtain ⟨o, ho, hd⟩ := z
          exact ⟨c, ec', o, hk _ _ ho, hd⟩⟩
  cell := fun y c e => by
    obtain ⟨v, o, ho, hd⟩ := I.cell y c (h1 y c e)
    exact ⟨v, o, hk _ _ ho, hd⟩
  free := I.hok.fresh (Nat.le_refl _)
  freeC := fun y c e => I.freeC y c (h1 y c e)
  pin := fun p hp => absurd (show p ∈ ([] : List (Addr × Obj)) from hp) (by simp)
  hok := I.hok.kept hk
  len := by
    show (none :: none :: js.map fun j => σ.getD j none).length = (x :: z :: ys).length
    have q := congrArg List.length S.places
    simp only [List.length_map] at q
    simp [q]

/-- behind the block -/
theorem blk_end2 {H5 : Hp} {s5 : Shared} {σ5 : St} {pl : List (Addr × Obj)} (I : Inv X pins σ H s) (hf : ∀ b ∈ fp, FpOk X pins H b) (J : Inv (X.blk (x :: z :: ys) sc cl s.heap.objs.size s H fp) pl σ5 H5 s5) :
    Inv X pins σ H5 s5 ∧ FpOk X pins H5 s.heap.objs.size ∧ ∃ oC m, s5.heap.get? s.heap.objs.size = some oC ∧ (∀ h : Heap, h.get? s.heap.objs.size = some oC → h.Ns s.heap.objs.size m) ∧ Inv X (pins ++ [(s.heap.objs.size, oC)]) σ H5 s5 := by
  have I5 : Inv X pins σ H5 s5 := I.call' (ch := fp) J.os J.base J.hok J.bare fun b hb => ⟨(hf b hb).2.2.2.1, (hf b hb).2.1, (hf b hb).2.2.2.2.1, (hf b hb).2.2.2.2.2⟩
  have F5 : FpOk X pins H5 s.heap.objs.size := I.fpOk (Nat.le_refl _) J.free
  obtain ⟨m, ⟨o, es, ep, ho, hd, r⟩, _⟩ := J.loc
  refine ⟨I5, F5, o, m, ho, fun h e => ⟨o, es, ep, e, hd, r⟩, I5.pins_of fun p hp => ?_⟩
  rcases List.mem_append.mp hp with z | z
  · exact I5.pin p (List.mem_append_right _ z)
  · have z : p = (s.heap.objs.size, o) := by simpa using z
    subst z
    exact ⟨ho, J.free, F5.2.1, F5.2.2.1, fun v q => by rw [hd] at q; cases q⟩
end

/-- what such a comprehension's walk wants: each turn a tuple of two -/
def CompBy2 (K : PySem.W.Frag) (js : List Nat) (te : TE) (σ : St) (J : It) (H : Hp) (Fin : Addr → Hp → Prop) : Prop :=
  ∀ D, H D = none → ∃ W : Nat → Nat → List V → Hp → Prop, (∃ m, W 0 m [] (upd H D (.lst []))) ∧ ∀ i m ys H', W i m ys H' → H' D = some (.lst ys) ∧
    ((J.stop i H' ∧ Fin D H') ∨ (J.go i H' ∧ ∃ N : List V → Hp → Prop, (∀ zs H'', N zs H'' → ∃ m', m' < m ∧ W (i + 1) m' zs H'') ∧ ∀ v H2, J.yld i H' v H2 → ∃ T a b, v = .ref T ∧ SqT K H2 T [a, b] ∧
      te (blkSt2 js σ (some a) (some b)) H2 fun y H4 => H4 D = some (.lst ys) ∧ ys.length < sizeLine ∧ N (ys ++ [y]) (upd H4 D (.lst (ys ++ [y])))))

section
variable {X : Cx} {pins : List (Addr × Obj)} {σ : St} {H : Hp} {s : Shared} {x z : Str} {ys : List Str} {js : List Nat} {sc : Scope} {cl : List (Str × Addr)} {fp : List Addr}
theorem comp_block2 {elt iter : Expr} {px pz pt pos : Pos} {tk : Nat} {te : TE} {J : It} {it : Addr} {tn : Nat → Heap → Prop} {Fin : Addr → Hp → Prop} {E : Value → Shared → Prop} {RR : Value → Addr → Result → Shared → Prop}
    (hc : X.calm = true) (I : Inv X pins σ H s) (S : BlkScope2 X.env.scope X.N x z ys js sc) (h1 : ∀ y c, cl.lookup y = some c → X.env.cells.lookup y = some c) (h2 : ∀ y ∈ sc.names, y.2 = .free → ∃ c, cl.lookup y.1 = some c)
    (T : Turn X.prog X.w X.K (.Tuple [.Name x px, .Name z pz] tk pt) J fp it tn) (st : tn 0 s.heap) (hf : ∀ b ∈ fp, FpOk X pins H b)
    (he : ∀ cl C s H ex, PE (X.blk (x :: z :: ys) sc cl C s H ex) elt te)
    (hw : CompBy2 X.K js te σ J H Fin)
    (hRR : ∀ D C oC m s5 H5, Inv X pins σ H5 s5 → FpOk X pins H5 C → s5.heap.get? C = some oC → (∀ h : Heap, h.get? C = some oC → h.Ns C m) → Inv X (pins ++ [(C, oC)]) σ H5 s5 → Fin D H5 → RR (.ref D) C (.ok .next) s5) :
    wpAny (model X.prog X.w) X.A (newList []) (fun acc s₃ => wpAny (model X.prog X.w) X.A (newFunctionEnv sc X.env.globals cl [] X.env.qual none .none (some X.env)) (fun cenv s₄ =>
      codeAny (model X.prog X.w) X.A (.compStart (.ListComp elt [⟨.Tuple [.Name x px, .Name z pz] tk pt, iter, [], 0⟩] sc pos) 0 (.ref it) acc { cenv with scope := relabel sc X.env }) (RR acc cenv.locals) s₄) E s₃) E s := by
  refine wpAny_newObj_type (wpAny_newFunctionEnv S.nocell (by intro y hy; simp at hy) (fun h₁ hns₁ hsb₁ => ?_) S.kind)
  have hD : H s.heap.objs.size = none := I.hok.fresh (Nat.le_refl _)
  have I1 : Inv X pins σ (upd H s.heap.objs.size (.lst [])) { s with heap := s.heap.push { cls := .type "list", dict := none, data := .seq ([] : List Value).toArray }, toks := s.toks } :=
    I.laid (t' := s.toks) (fun b u e => Heap.get?_push_of_some _ e) (Nat.le_refl _) ⟨Nat.zero_le _, [], 0, .nil, Heap.get?_push_size _ rfl⟩
  have hfl : ∀ b ∈ fp, b < s.heap.objs.size := fun b hb => by
    obtain ⟨o, e, _⟩ := T.obj 0 _ st b hb
    exact Heap.lt_size e
  generalize hs1 : ({ s with heap := s.heap.push { cls := .type "list", dict := none, data := .seq ([] : List Value).toArray }, toks := s.toks } : Shared) = s1 at I1
  have sz1 : s1.heap.objs.size = s.heap.objs.size + 1 := by rw [← hs1]; exact Heap.size_push _ _
  have old : ∀ b o, s.heap.get? b = some o → s1.heap.get? b = some o := fun b o e => by rw [← hs1]; exact Heap.get?_push_of_some _ e
  rw [hs1] at hns₁ hsb₁
  try rw [hs1]
  have hf1 : ∀ b ∈ fp, FpOk X pins (upd H s.heap.objs.size (.lst [])) b := fun b hb => ⟨by rw [upd_ne (Nat.ne_of_lt (hfl b hb))]; exact (hf b hb).1, (hf b hb).2⟩
  have hfl1 : ∀ b ∈ fp, b < s1.heap.objs.size := fun b hb => by rw [sz1]; exact Nat.lt_succ_of_lt (hfl b hb)
  have old1 : ∀ b o, s1.heap.get? b = some o → h₁.get? b = some o := fun b o e => hsb₁.extBut b o (Nat.ne_of_lt (Heap.lt_size e)) (Heap.get?_push_of_some _ e)
  have I2 := blk_start2 (t' := s1.toks + ([] : List (Str × Value)).length) I1 S h1 h2 hf1 hfl1 hns₁ old1
  have st2 : tn 0 h₁ := T.keep 0 _ _ st fun b _ o e => old1 b o (old b o e)
  obtain ⟨W, ⟨m0, w0⟩, turn⟩ := hw s.heap.objs.size hD
  have fr0 : ∀ b ∈ fp, (upd H s.heap.objs.size (.lst [])) b = none := fun b hb => (hf1 b hb).1
  have stat : ∀ {H' : Hp} {pl : List (Addr × Obj)}, (∀ b ∈ fp, H' b = none) → (∀ b ∈ fp, ∀ p ∈ pl, p.1 ≠ b) → ∀ b ∈ fp, FpOk (X.blk (x :: z :: ys) sc cl s1.heap.objs.size s1 (upd H s.heap.objs.size (.lst [])) fp) pl H' b := fun hn hp b hb =>
    ⟨hn b hb, (I2.ok.exf b hb).1, I2.ok.exfs b hb, .inl hb, (I2.ok.exf b hb).2, fun p hpp => hp b hb p (by simpa [Cx.blk] using hpp)⟩
  have loop : codeAny (model X.prog X.w) X.A (.compLoop (.ListComp elt [⟨.Tuple [.Name x px, .Name z pz] tk pt, iter, [], 0⟩] sc pos) 0 (.ref it) (.ref s.heap.objs.size) (compEnvC sc cl s1.heap.objs.size X.env)) (RR (.ref s.heap.objs.size) s1.heap.objs.size)
      { s1 with heap := h₁, toks := s1.toks + ([] : List (Str × Value)).length } := by
    refine PyProof.Rows.LCp.codeAny_compLoop_pair (fun n s' => ∃ i zs H', Inv (X.blk (x :: z :: ys) sc cl s1.heap.objs.size s1 (upd H s.heap.objs.size (.lst [])) fp) [] (blkSt2 js σ none none) H' s' ∧ tn i s'.heap ∧ (∀ b ∈ fp, H' b = none) ∧ W i n zs H') ?_ m0 ⟨0, [], _, I2, st2, fr0, w0⟩
    rintro n s3 ⟨i, zs, H3, I3, st3, fr3, w3⟩
    obtain ⟨hD3, tr⟩ := turn i n zs H3 w3
    rcases tr with ⟨stop, fin⟩ | ⟨go, N, hN, step⟩
    · refine thn (T.done (X.blk (x :: z :: ys) sc cl s1.heap.objs.size s1 (upd H s.heap.objs.size (.lst [])) fp) rfl rfl rfl hc i [] s3 _ H3 _ I3 (stat fr3 (fun _ _ _ z => nomatch z)) st3 stop) fun r s4 ⟨hr, I4⟩ => ?_
      subst hr
      obtain ⟨I5, F5, oC, m, ho, hns, I6⟩ := blk_end2 I1 hf1 I4
      exact hRR _ _ oC m _ _ I5 F5 ho hns I6 fin
    · refine thn (T.item (X.blk (x :: z :: ys) sc cl s1.heap.objs.size s1 (upd H s.heap.objs.size (.lst [])) fp) rfl rfl rfl hc i [] s3 _ H3 _ I3 (stat fr3 (fun _ _ _ z => nomatch z)) st3 go) fun r s4 ⟨u, hr, h4⟩ => ?_
      subst hr
      refine thn h4 fun _ s5 ⟨v, H5, I5, r5, y5, st5, fr5⟩ => ?_
      have I5' := I5.pinned (stat fr5 (fun _ _ _ z => nomatch z)) (T.obj _ _ st5)
      obtain ⟨Ta, a, b, ev, hq, step⟩ := step v H5 y5
      have lx : Vis (X.blk (x :: z :: ys) sc cl s1.heap.objs.size s1 (upd H s.heap.objs.size (.lst [])) fp).env.scope x := .inl (lookup_relabel_local S.var)
      have tgt := pg_tup (X := X.blk (x :: z :: ys) sc cl s1.heap.objs.size s1 (upd H s.heap.objs.size (.lst [])) fp) (pos := pt) (k := tk) (n := 2) hc
        (pgs_cons (pg_name (i := 0) (pos := px) S.nd rfl (.inl (lookup_relabel_local S.var)) (.inr (lookup_relabel_local S.var))) (pgs_cons (pg_name (i := 1) (pos := pz) S.nd rfl (.inl (lookup_relabel_local S.var2)) (.inr (lookup_relabel_local S.var2))) pgs_nil))
      refine wpAny_mono (tgt _ s5 _ H5 v u (fun σ' H' => σ' = blkSt2 js σ (some a) (some b) ∧ H' = H5) I5' r5 ⟨Ta, _, ev, hq, rfl, a, [b], rfl, b, [], rfl, rfl, rfl, rfl⟩)
        (fun _ s6 ⟨σ6, H6, I6, e6, e7⟩ => ?_) (fun _ _ z => nomatch z)
      subst e6; subst e7
      have again : ∀ {σ8 : St} {H8 : Hp} {s8 : Shared} {zs' : List V}, Inv (X.blk (x :: z :: ys) sc cl s1.heap.objs.size s1 (upd H s.heap.objs.size (.lst [])) fp) ([] ++ pinsAt fp s5.heap) (blkSt2 js σ (some a) (some b)) H8 s8 → N zs' H8 →
          ∃ m, m < n ∧ ∃ i zs H', Inv (X.blk (x :: z :: ys) sc cl s1.heap.objs.size s1 (upd H s.heap.objs.size (.lst [])) fp) [] (blkSt2 js σ none none) H' s8 ∧ tn i s8.heap ∧ (∀ b ∈ fp, H' b = none) ∧ W i m zs H' := by
        intro σ8 H8 s8 zs' I8 n8
        obtain ⟨m', hm, w8⟩ := hN _ _ n8
        refine ⟨m', hm, i + 1, zs', H8, (Inv.unpinned I8).weak rfl (fun k w e => ?_), T.keep _ _ _ st5 fun b hb o e => (I8.pin (b, o) (List.mem_append_right _ (List.mem_append_right _ (mem_pinsAt hb e)))).1, fun b hb => ?_, w8⟩
        · match k with
          | 0 => cases (show some (none : Option V) = some (some w) from e)
          | 1 => cases (show some (none : Option V) = some (some w) from e)
          | k + 2 => exact e
        · obtain ⟨o, e, d⟩ := T.obj _ _ st5 b hb
          exact (I8.pin (b, o) (List.mem_append_right _ (List.mem_append_right _ (mem_pinsAt hb e)))).2.1
      refine wpAny_mono (he _ _ _ _ _ _ s6 _ _ _ I6 step) (fun u8 s8 ⟨y8, H8, I8, r8, hD8, hz8, q8⟩ => ?_) (fun _ _ z => nomatch z)
      refine wpAny_mono (mt_append (X := X.blk (x :: z :: ys) sc cl s1.heap.objs.size s1 (upd H s.heap.objs.size (.lst [])) fp) _ s8 _ H8 (.ref s.heap.objs.size) [y8] (.ref s.heap.objs.size) [u8] (fun _ H9 => H9 = upd H8 s.heap.objs.size (.lst (zs ++ [y8]))) I8 rfl (.cons r8 .nil)
        ⟨_, zs, y8, rfl, rfl, hD8, hz8, rfl⟩) (fun _ s9 ⟨_, H9, I9, _, e9⟩ => ?_) (fun _ _ z => nomatch z)
      subst e9
      exact again (σ8 := []) I9 q8
  exact codeAny_compStart_list loop (T.self X.A 0 _ _ _ st2 loop)
end

/-- [elt for x, z in iter if ..] -/
def tComp2 (K : PySem.W.Frag) (wi : TI) (js : List Nat) (te : TE) : TE := fun σ H Q => wi σ H fun J H1 => CompBy2 K js te σ J H1 fun D H2 => Q (.ref D) H2
section
variable {X : Cx} {elt iter : Expr} {x z : Str} {ys : List Str} {js : List Nat} {sc : Scope} {px pz pt pos : Pos} {tk : Nat} {wi : TI} {te : TE}
theorem pe_comp2 (S : BlkScope2 X.env.scope X.N x z ys js sc) (hc : X.calm = true) (hi : PI X (.Tuple [.Name x px, .Name z pz] tk pt) iter wi) (he : ∀ cl C s H ex, PE (X.blk (x :: z :: ys) sc cl C s H ex) elt te)
    (hs : ∀ v, foldedSetIterable iter X.env v = pure v := by intro _; rfl) : PE X (.ListComp elt [⟨.Tuple [.Name x px, .Name z pz] tk pt, iter, [], 0⟩] sc pos) (tComp2 X.K wi js te) := by
  intro pins s σ H Q I h
  obtain ⟨cl, ecl, h1, h2⟩ := closure_ok (fun y hy hf => I.ok.has y.1 (S.out y hy hf))
  rw [eval_ListComp]
  refine wpAny_comprehension_free (use := none) rfl hs ecl S.kind S.loc (thn (hi pins s σ H _ I h) fun v s1 hv => thn hv fun itv s2 h2' => ?_)
  obtain ⟨it, fp, tn, J, H2, e, I2, T, st2, f2, q2⟩ := h2'
  subst e
  refine comp_block2 (RR := fun acc C => compPost (model X.prog X.w) X.A X.xe none (EP X pins σ Q) acc C) hc I2 S h1 h2 T st2 f2 he q2 ?_
  intro D C oC m s5 H5 I5 F5 ho hns I6 fin
  refine ⟨m, hns _ ho, fun h' hs' => ⟨.ref D, H5, ?_, rfl, fin⟩⟩
  exact I5.turned (t' := s5.toks) (fun b o hb e => hs'.extBut b o hb e) F5.1 F5.2.1 F5.2.2.2.1 F5.2.2.2.2.1 F5.2.2.2.2.2
end
end L2
namespace STab
open PySem PyProof.Rows
/-- a zip whose own tuple was handed out and is still held -/
abbrev ZipOut (h : Heap) (z TI TO T : Addr) (b : Bool) : Prop :=
  h.get? z = some { cls := .type "zip", dict := none, data := .fields #[rawInt T, .bool b, .bool false, .ref TI, .ref TO], slots := #[] }
section
variable {prog : Program} {w : World} {A : Around} {E : Value → Shared → Prop} {s : Shared}
theorem alive {M : Model} {a : Addr} {o : Obj} {Q : Option Obj → Shared → Prop} (ho : s.heap.get? a = some o) (h : Q (some o) s) : wpAny M A (loadIfAlive a) Q E s := fun Γ p _ => by
  unfold loadIfAlive
  rw [Sem.wp_loadIfAlive, ho]
  exact (Sem.wp_pure ..).mpr h
/-- the own tuple is not free: a new one must be made -/
theorem zip_busy {z TI TO T : Addr} {bb : Bool} {oT : Obj} {Q : Bool → Shared → Prop} (hz : ZipOut s.heap z TI TO T bb) (hT : s.heap.get? T = some oT)
    (hQ : ∀ h', ZipOut h' z TI TO T true → Heap.SameBut z s.heap h' → Q false { s with heap := h' }) : wpAny (model prog w) A (Builtin.SmallTypes.ownedTupleIsFree (.ref z)) Q E s := by
  unfold Builtin.SmallTypes.ownedTupleIsFree
  refine wpAny_bind (wpAny_field hz rfl (x := rawInt T) rfl ?_)
  show wpAny _ _ (loadIfAlive (Int.toNat (T : Int)) >>= _) _ _ _
  rw [Int.toNat_natCast]
  refine wpAny_bind (alive hT ?_)
  show wpAny _ _ (field (.ref z) 1 >>= _) _ _ _
  refine wpAny_bind (wpAny_field hz rfl (x := .bool bb) rfl ?_)
  cases bb with
  | true =>
    rw [if_neg (by decide)]
    have e := hQ s.heap hz (Heap.SameBut.refl ..)
    exact wpAny_pure e
  | false =>
    rw [if_pos (by decide)]
    refine wpAny_bind (wpAny_setField_rec hz (by simp) fun h' hz' hs' => wpAny_pure (hQ h' hz' hs'))
end
section
variable {prog : Program} {w : World} {A : Around} {R : Result → Shared → Prop}
theorem loop_by {S I : Addr} {res : Value} {n : Nat} {Fn : Array Value → Shared → Prop} (hn : n ≤ sizeLine) (Iv : Nat → Array Value → Nat → Shared → Prop)
    (inv : ∀ i acc c s, Iv i acc c s → acc.size = i ∧ s.heap.get? S = some { cls := .type "list", dict := none, data := .seq acc c, slots := #[] })
    (item : ∀ i acc c s (Q : Option Value → Shared → Prop) (E : Value → Shared → Prop), i < n → Iv i acc c s → (∀ v s', s'.heap.get? S = some { cls := .type "list", dict := none, data := .seq acc c, slots := #[] } →
      (∀ h' c', h'.get? S = some { cls := .type "list", dict := none, data := .seq (acc.push v) c', slots := #[] } → Heap.SameBut S s'.heap h' → Iv (i + 1) (acc.push v) c' { s' with heap := h' }) → Q (some v) s') → wpAny (model prog w) A.in1 (pyNext (.ref I)) Q E s)
    (done : ∀ acc c s (Q : Option Value → Shared → Prop) (E : Value → Shared → Prop), Iv n acc c s → (∀ s', Fn acc s' → Q none s') → wpAny (model prog w) A.in1 (pyNext (.ref I)) Q E s) :
    ∀ (k i : Nat) (s : Shared) (acc : Array Value) (c : Nat), n - i = k → i ≤ n → Iv i acc c s → (∀ s' acc', Fn acc' s' → R (.ok (.ret res)) s') → codeAny (model prog w) A (.builtin "list.extend.loop" ⟨[.ref S, .ref I, res], []⟩) R s := by
  intro k
  induction k with
  | zero =>
    intro i s acc c hk hi hv hR
    obtain rfl : i = n := by omega
    refine codeAny_builtin F.entry_extend_loop ?_
    rw [Around.under_plainId F.plain_extend_loop _]
    show wpAny _ A.in1 (pyNext (.ref I) >>= _) _ _ s
    exact wpAny_bind (done acc c s _ _ hv fun s' hf => wpAny_pure (hR s' acc hf))
  | succ k ih =>
    intro i s acc c hk hi hv hR
    have hlt : i < n := by omega
    refine codeAny_builtin F.entry_extend_loop ?_
    rw [Around.under_plainId F.plain_extend_loop _]
    show wpAny _ A.in1 (pyNext (.ref I) >>= _) _ _ s
    refine wpAny_bind (item i acc c s _ _ hlt hv fun v s' hS' go => ?_)
    have ha := (inv i acc c s hv).1
    show wpAny _ A.in1 (updateSeq S (·.push v) >>= _) _ _ _
    refine wpAny_bind (wpAny_updateSeq hS' rfl (wpAny_pure ⟨plainId_quiet F.plain_extend_loop _, ih (i + 1) _ (acc.push v) _ (by omega) hlt (go _ _ (Heap.get?_update_self _ hS' rfl) (Heap.SameBut.update ..)) hR⟩)
      (by rw [ha]; omega) (by show (acc.push v).size ≤ sizeLine + 1; rw [Array.size_push, ha]; omega))
end
theorem zip_nolen : typeLookup (.type "zip") "__len__" = pure none := by rw [typeLookup_type, builtinLookup_eq_fast]; kernel_rfl
theorem zip_nohint : typeLookup (.type "zip") "__length_hint__" = pure none := by rw [typeLookup_type, builtinLookup_eq_fast]; kernel_rfl
end STab
namespace L2
open PySem PySem.Spec PyProof.Rows
section
variable {X : Cx} {pins : List (Addr × Obj)} {σ : St} {H : Hp} {s : Shared}
/-- new objects are laid and tracked, many at once -/
theorem Inv.news {H' : Hp} {h' : Heap} {t' : Nat} (I : Inv X pins σ H s) (k : ∀ b o, s.heap.get? b = some o → h'.get? b = some o) (eq : ∀ b, b < s.heap.objs.size → H' b = H b)
    (new : ∀ b u, s.heap.objs.size ≤ b → H' b = some u → ObjOk X.prog X.w H' h' b u) : Inv X pins σ H' { s with heap := h', toks := t' } := by
  have up : ∀ b u, H b = some u → H' b = some u := fun b u e => by
    rw [eq b (I.hok b u e).lt]
    exact e
  refine I.step (g' := s.gens) (d' := s.drawn) (ch := []) (fun b hb => absurd hb (by simp)) (fun b ob _ _ _ e _ => k b ob e) (fun b ob _ _ _ e _ => ⟨ob.slots, k b ob e⟩) (fun b ob _ e n => by rw [eq b (Heap.lt_size e)]; exact n)
    (fun b ob _ e => ⟨ob, k b ob e⟩) (fun b xs e => up b _ e) (fun b ob u e => up b _ e) (fun b ps e => ⟨#[], by rw [up b _ e]; simp⟩) (fun m hm => ?_) (fun b u e => ?_) I.bare
  · obtain ⟨ob, es, ep, ho, r⟩ := hm
    exact ⟨ob, es, ep, k _ ob ho, r⟩
  · by_cases hb : s.heap.objs.size ≤ b
    · exact new b u hb e
    · rw [eq b (Nat.lt_of_not_le hb)] at e
      exact (I.hok b u e).stay (fun c v _ q => k c v q) (fun c q => up c _ q) fun c xs q => up c _ q
end
/-- a value that is a tuple of two -/
def TwoR (H : Hp) (v : V) (k : V × V) : Prop := ∃ T, v = .ref T ∧ H T = some (.tup [k.1, k.2])
end L2
namespace L2
open PySem PySem.Spec PyProof.Rows
/-- an exception in flight: its object, its traceback's head -/
def Fly (h : Heap) (a T : Addr) (cls : Value) : Prop :=
  ∃ oe vs a0 oT ts, h.get? a = some oe ∧ oe.cls = cls ∧ vs[0]? = some a0 ∧ oe.data = .fields vs ∧ vs[1]? = some (.ref T) ∧ T ≠ a ∧ h.get? T = some oT ∧ oT.data = .fields ts ∧ ts[3]? = some .none
/-- how an exception lies behind a call -/
def CXE (P : Program) (w : World) : CXT := fun outer H s E e s' =>
  ∃ (a T : Addr) (cls : Value) (H' : Hp), e = .ref a ∧ s'.os = s.os ∧ AllBare s'.gens ∧ Un (frs outer) [] H H' s.heap s'.heap ∧ HOk P w H' s'.heap ∧ H' a = none ∧ H' T = none ∧ s.heap.get? a = none ∧ s.heap.get? T = none ∧ Fly s'.heap a T cls ∧ E cls none H'
theorem funs_of {h base B : Heap} : ∀ {l : List Env}, h.FunFrames base l → (∀ b ∈ frs l, B.get? b = none) → h.FunFrames B l
  | [], _, _ => trivial
  | env :: l, ⟨k, ⟨L, o, hf, _, ho, hd⟩, r⟩, hb => by
    have e : frs (env :: l) = L :: frs l := by
      unfold frs
      rw [List.filterMap_cons, hf]
    rw [e] at hb
    exact ⟨k, ⟨L, o, hf, hb L (List.mem_cons_self ..), ho, hd⟩, funs_of r fun b z => hb b (List.mem_cons_of_mem _ z)⟩
theorem ok_there {P : Program} {w : World} {H : Hp} {h : Heap} {a : Addr} : ∀ {o : HO}, ObjOk P w H h a o → ∃ ob, h.get? a = some ob
  | .lst _, x => let ⟨_, _, _, _, e⟩ := x; ⟨_, e⟩
  | .tup _, x => let ⟨_, _, _, o, e, _⟩ := x; ⟨o, e⟩
  | .dK _, x => let ⟨_, _, _, _, o, _, _, e, _⟩ := x; ⟨o, e⟩
  | .dT _, x => let ⟨_, _, _, _, o, _, _, e, _⟩ := x; ⟨o, e⟩
  | .set _ _, x => let ⟨o, _, _, _, e, _⟩ := x; ⟨o, e⟩
  | .ins _ _ _, x => let ⟨_, _, _, e, _⟩ := x; ⟨_, e⟩
  | .own _, x => x
  | .xd _, x => let ⟨_, ⟨o, _, _, e, _⟩, _⟩ := x; ⟨o, e⟩
  | .rng _ _, x => let ⟨_, _, _, e⟩ := x; ⟨_, e⟩
  | .frz o _, x => ⟨o, x.1⟩
  | .tbl _, x => ⟨_, x⟩
  | .met _ _, x => ⟨_, x⟩
  | .ext _, x => x.2.1
section
variable {X : Cx} {pins : List (Addr × Obj)} {σ : St} {H : Hp} {s : Shared} {a T : Addr} {cls : Value} {h' : Heap}
/-- what stays when only the objects of the exception and the frames' slots change -/
structure Stays (X : Cx) (xs : List Addr) (h h' : Heap) : Prop where
  keep : ∀ b o, b ∉ xs → b ∉ frs X.stack → h.get? b = some o → h'.get? b = some o
  slot : ∀ b o, b ∈ frs X.stack → h.get? b = some o → ∃ sl, h'.get? b = some { o with slots := sl }
/-- the abstract heap behind it -/
theorem Inv.stays_hok (I : Inv X pins σ H s) {xs : List Addr} (st : Stays X xs s.heap h') (hx : ∀ b ∈ xs, H b = none) : HOk X.prog X.w H h' := fun b u e => by
  refine (I.hok b u e).stay (fun c v hc q => ?_) (fun _ q => q) fun _ _ q => q
  have tracked : H c ≠ none := by
    rcases hc with z | z
    · rw [z, e]; exact fun q => nomatch q
    · rw [z]; exact fun q => nomatch q
  exact st.keep c v (fun m => tracked (hx c m)) (fun m => tracked (I.stkFree c m)) q
theorem Inv.stays_un (I : Inv X pins σ H s) (hex : X.ex = []) {xs : List Addr} (st : Stays X xs s.heap h') (hx : ∀ b ∈ xs, X.s₀.heap.get? b = none) (hstk : X.stack = X.env :: X.outer ∧ X.env.frame = some X.env.locals) : Un X.fs [] X.H₀ H X.s₀.heap h' := by
  have I0 := I.base
  rw [hex] at I0
  have fr : frs X.stack = X.env.locals :: X.fs := by
    rw [hstk.1]
    unfold frs
    rw [List.filterMap_cons, hstk.2]
    rfl
  have old : ∀ b o, X.s₀.heap.get? b = some o → b ∉ xs ∧ b ≠ X.env.locals := fun b o e => by
    refine ⟨fun m => (by rw [hx b m] at e; cases e), fun z => ?_⟩
    have := Heap.lt_size e
    rw [z] at this
    exact absurd this (Nat.not_lt.mpr I.ok.above)
  have step : ∀ b o, X.s₀.heap.get? b = some o → ∀ o', s.heap.get? b = some o' → b ∉ X.fs → h'.get? b = some o' := fun b o e o' e' hb => by
    refine st.keep b o' (old b o e).1 ?_ e'
    rw [fr]
    intro m
    rcases List.mem_cons.mp m with z | z
    · exact (old b o e).2 z
    · exact hb z
  refine ⟨fun b o e n hb hx' => step b o e o (I0.keep b o e n hb hx') hb, fun b o e n hb hx' => ?_, fun b o e n hx' => I0.free b o e n hx', fun b o e hx' => ?_, I0.tups, I0.frzs, I0.tbls⟩
  · obtain ⟨sl, e1⟩ := I0.slot b o e n hb hx'
    obtain ⟨sl2, e2⟩ := st.slot b _ (by rw [fr]; exact List.mem_cons_of_mem _ hb) e1
    exact ⟨sl2, e2⟩
  · obtain ⟨o', e1⟩ := I0.there b o e hx'
    by_cases hb : b ∈ X.fs
    · obtain ⟨sl2, e2⟩ := st.slot b _ (by rw [fr]; exact List.mem_cons_of_mem _ hb) e1
      exact ⟨_, e2⟩
    · exact ⟨o', step b o e o' e1 hb⟩
theorem Inv.new0 (I : Inv X pins σ H s) (hex : X.ex = []) {b : Addr} (e : s.heap.get? b = none) : X.s₀.heap.get? b = none := by
  cases q : X.s₀.heap.get? b with
  | none => rfl
  | some o =>
    have h0 := I.base
    rw [hex] at h0
    obtain ⟨o', e'⟩ := h0.there b o q (by simp)
    rw [e] at e'
    cases e'
/-- the heap that is sure to stay: all but these and the frames -/
theorem left_stays (I : Inv X pins σ H s) {xs : List Addr} {e : Addr} {cls a0 : Value} (hstk : X.stack = X.env :: X.outer) (lf : Heap.LeftW (PySem.W.hideAll s.heap (xs ++ frs X.stack)) (X.env :: X.outer) e cls a0 s.heap h') : Stays X xs s.heap h' where
  keep := fun b o h1 h2 q => lf.1 b o (PySem.W.hideAll_get _ q fun m => (List.mem_append.mp m).elim h1 h2)
  slot := fun b o hb q => by
    obtain ⟨_, o', e', n⟩ := I.stack.mem hb
    rw [q] at e'
    cases e'
    exact lf.2.2.2 b o q n
theorem Inv.fresh_of (I : Inv X pins σ H s) {b : Addr} (e : s.heap.get? b = none) : H b = none := by
  cases q : H b with
  | none => rfl
  | some u =>
    obtain ⟨o, ho⟩ := ok_there (I.hok b u q)
    rw [e] at ho
    cases ho
theorem Inv.left (I : Inv X pins σ H s) (hex : X.ex = []) (hstk : X.stack = X.env :: X.outer ∧ X.env.frame = some X.env.locals) {xs : List Addr} {E : XK} {a : Addr} {cls a0 : Value} (hxs : ∀ b ∈ xs, H b = none) (hx0 : ∀ b ∈ xs, X.s₀.heap.get? b = none) (ha : a ∈ xs)
    (hE : E cls none H) (lf : Heap.LeftW (PySem.W.hideAll s.heap (xs ++ frs X.stack)) (X.env :: X.outer) a cls a0 s.heap h') : CXE X.prog X.w X.outer X.H₀ X.s₀ E (.ref a) { s with heap := h' } := by
  have st := left_stays I hstk.1 lf
  obtain ⟨oe, vs, T, oT, ts, e1, ⟨ec, e0⟩, ed, e2, nT, nTa, eT, edT, e3⟩ := lf.2.2.1
  have Tfr : T ∉ frs X.stack := fun m => by
    rw [hstk.1] at m
    obtain ⟨_, o', e', n⟩ := lf.2.1.mem m
    rw [eT] at e'
    cases e'
    exact n ts edT
  have TT : H T = none ∧ X.s₀.heap.get? T = none := by
    cases q : s.heap.get? T with
    | none => exact ⟨I.fresh_of q, I.new0 hex q⟩
    | some o =>
      by_cases m : T ∈ xs
      · exact ⟨hxs T m, hx0 T m⟩
      · have := PySem.W.hideAll_get (xs ++ frs X.stack) q fun z => (List.mem_append.mp z).elim m Tfr
        rw [nT] at this
        cases this
  exact ⟨a, T, cls, H, rfl, I.os, I.bare, I.stays_un hex st hx0 hstk, I.stays_hok st hxs, hxs a ha, TT.1, hx0 a ha, TT.2, ⟨oe, vs, a0, oT, ts, e1, ec, e0, ed, e2, nTa, eT, edT, e3⟩, hE⟩
theorem Inv.hid (I : Inv X pins σ H s) (hstk : X.stack = X.env :: X.outer) (xs : List Addr) : s.heap.FunFrames (PySem.W.hideAll s.heap (xs ++ frs X.stack)) (X.env :: X.outer) := by
  rw [← hstk]
  exact funs_of I.stack fun b hb => PySem.W.hideAll_none _ (List.mem_append_right _ hb)
/-- an exception that was just made leaves the frame -/
theorem leave_first {E : XK} {oe : Obj} {vs : Array Value} {a0 : Value} (I : Inv X pins σ H s) (hex : X.ex = []) (hstk : X.stack = X.env :: X.outer ∧ X.env.frame = some X.env.locals) (ha : s.heap.get? a = some oe) (hd : oe.data = .fields vs) (h1 : vs[1]? = some .none) (h0 : vs[0]? = some a0)
    (hn : H a = none) (n0 : X.s₀.heap.get? a = none) (hE : E oe.cls none H) :
    wpAny (model X.prog X.w) X.A (leaving X.env (.ref a)) (fun _ s'' => CXE X.prog X.w X.outer X.H₀ X.s₀ E (.ref a) s'') (fun e' s'' => CXE X.prog X.w X.outer X.H₀ X.s₀ E e' s'') s := by
  have one : ∀ b ∈ [a], b = a := fun b hb => List.mem_singleton.mp hb
  refine wpAny_leaving_firstW (base := PySem.W.hideAll s.heap ([a] ++ frs X.stack)) (by rw [I.ok.frames, hstk.1]) (I.hid hstk.1 [a]) hstk.2 ha (fun b o e => PySem.W.of_hideAll _ e) (PySem.W.hideAll_none _ (by simp)) hd h1 h0 fun h' lf => ?_
  exact I.left hex hstk (fun b hb => by rw [one b hb]; exact hn) (fun b hb => by rw [one b hb]; exact n0) (by simp) hE lf
/-- an exception passes the frame -/
theorem leave_next {E : XK} (I : Inv X pins σ H s) (hex : X.ex = []) (hstk : X.stack = X.env :: X.outer ∧ X.env.frame = some X.env.locals) (fl : Fly s.heap a T cls)
    (hn : H a = none) (hnT : H T = none) (n0 : X.s₀.heap.get? a = none) (nT : X.s₀.heap.get? T = none) (hE : E cls none H) :
    wpAny (model X.prog X.w) X.A (leaving X.env (.ref a)) (fun _ s'' => CXE X.prog X.w X.outer X.H₀ X.s₀ E (.ref a) s'') (fun e' s'' => CXE X.prog X.w X.outer X.H₀ X.s₀ E e' s'') s := by
  obtain ⟨oe, vs, a0, oT, ts, e1, ec, e0, ed, e2, nTa, eT, edT, e3⟩ := fl
  have two : ∀ b ∈ [a, T], b = a ∨ b = T := fun b hb => by simpa using hb
  refine wpAny_leaving_nextW (base := PySem.W.hideAll s.heap ([a, T] ++ frs X.stack)) (cls := cls) (a0 := a0) (by rw [I.ok.frames, hstk.1]) (I.hid hstk.1 [a, T]) hstk.2 ⟨oe, vs, T, oT, ts, e1, ⟨ec, e0⟩, ed, e2, PySem.W.hideAll_none _ (by simp), nTa, eT, edT, e3⟩ (fun b o e => PySem.W.of_hideAll _ e) (PySem.W.hideAll_none _ (by simp)) fun h' lf => ?_
  refine I.left hex hstk (fun b hb => ?_) (fun b hb => ?_) (by simp) hE lf
  · rcases two b hb with z | z <;> rw [z] <;> assumption
  · rcases two b hb with z | z <;> rw [z] <;> assumption
/-- behind a call that raised -/
theorem Inv.behind {E : XK} {e : Value} {s' : Shared} (I : Inv X pins σ H s) (c : CXE X.prog X.w X.stack H s E e s') :
    ∃ (a T : Addr) (cls : Value) (H' : Hp), e = .ref a ∧ Inv X pins σ H' s' ∧ H' a = none ∧ H' T = none ∧ s.heap.get? a = none ∧ s.heap.get? T = none ∧ Fly s'.heap a T cls ∧ E cls none H' := by
  obtain ⟨a, T, cls, H', ee, os, bare, un, hok, r⟩ := c
  obtain ⟨hh, g, d, t, os'⟩ := s'
  obtain rfl : os' = s.os := os
  exact ⟨a, T, cls, H', ee, I.call (h' := hh) (g' := g) (d' := d) (t' := t) (ch := []) un hok bare (fun b z => absurd z (by simp)), r⟩
/-- the facts of an own exception class -/
theorem exc_obj {K : PySem.W.Frag} {h : Heap} {C : Addr} {bmB : List Value} {newId : String} (X : K.In h) (q : PySem.W.excIn K C bmB newId = true) :
    ∃ bm N nm q bs hdct sn sub ab col dd k0 k1 k2 k3 k5 mN, h.get? C = some (excClassObj nm q C N bs bm hdct sn sub ab col dd k0 k1 k2 k3 k5 newId) ∧ h.Ns N mN ∧ mN "__init__" = none ∧ OwnTail h bmB bm := by
  unfold PySem.W.excIn at q
  split at q
  · rename_i dd cd sl ho
    split at q
    · rename_i C' bm k0 k1 k2 k3 n k5 hm hs
      simp only [Bool.and_eq_true, beq_iff_eq, Bool.not_eq_true'] at q
      obtain ⟨⟨⟨⟨⟨rfl, rfl⟩, hdel⟩, ht⟩, hok⟩, hni⟩ := q
      obtain ⟨nm, bs, mro, ns, qn, hd, sn, sub, ab, col, del⟩ := cd
      dsimp only at hm hdel hok hni
      subst hm hdel
      have hsl : sl = #[k0, k1, k2, k3, some (.builtin n), k5] := by
        obtain ⟨l⟩ := sl
        have hs : l = _ := hs
        rw [hs]
      subst hsl
      exact ⟨bm, ns, nm, qn, bs, hd, sn, sub, ab, col, dd, k0, k1, k2, k3, k5, _, X _ _ ho, .of_isNs (PySem.W.isNs_of_in X hok), PySem.W.nsMap_none_of_in X hok hni, PySem.W.tail_of_in X ht⟩
    · cases q
  · cases q
end
/-- raise C(e) -/
def tRaise (C : Addr) (E : XK) (ta : TE) : TS := fun _ σ H => ta σ H fun _ H1 => E (.ref C) none H1
theorem ps_raise {X : Cx} {E : XK} {C : Addr} {x : Str} {e₀ : Expr} {ta : TE} {np cpos pos : Pos} {bmB : List Value} {B newId initId : String} (hc : X.calm = true) (hex : X.ex = []) (hstk : X.stack = X.env :: X.outer ∧ X.env.frame = some X.env.locals)
    (hxe : ∀ e s', wpAny (model X.prog X.w) X.A (leaving X.env e) (fun _ s'' => CXE X.prog X.w X.outer X.H₀ X.s₀ E e s'') (fun e' s'' => CXE X.prog X.w X.outer X.H₀ X.s₀ E e' s'') s' → X.xe e s')
    (hg : Gl X x) (hm : X.mg x = some (.ref C)) (q : PySem.W.excIn X.K C bmB newId = true) (FB : ExcBaseFacts B newId initId bmB) (he₀ : PE X e₀ ta) (he : starEach [e₀] X.env = [(false, eval e₀ X.env)] := by rfl) (hdb : (x == ("__debug__" : Str)) = false := by decide) :
    PS X (.Raise (some (.Call (.Name x np) [e₀] [] cpos)) none pos) (tRaise C E ta) := by
  intro pins s σ H D I h
  obtain ⟨tl, N, nm, qn, bs, hdct, sn, sub, ab, col, dd, k0, k1, k2, k3, k5, mN, hC, hN, hni, TL⟩ := exc_obj I.mod.kin q
  refine wpAny_Raise_call_subT (C := C) (nm := nm) (q := qn) (N := N) (bs := bs) (bm := tl) (hdct := hdct) (sn := sn) (sub := sub) (ab := ab) (col := col) (dd := dd) (k0 := k0) (k1 := k1) (k2 := k2) (k3 := k3) (k5 := k5)
    FB (mN := mN) (TL.hasType FB.hasBase) (I.ok.hd hc) (by rw [he]; rfl) hni (ld_glob I hg hm ⟨rfl, ?_⟩ hdb)
  rw [he]
  show wpAny _ _ (evalArgs (.ref C) true ((false, eval e₀ X.env) :: backTo cpos (starEach [] X.env)) []) _ _ s
  refine Calls.evalArgs_plain (Calls.spliced_cons (thn (he₀ pins s σ H _ I h) fun u s2 ⟨v, H2, I2, rv, q2⟩ => Calls.spliced_nil ⟨rfl, show 1 ≤ sizeLine by decide, I2.bk _ _ hC, hN.keeps I2.bk, TL.keeps I2.bk, fun h' e mk => ?_⟩))
  have I3 : Inv X pins σ H2 { s2 with heap := h' } := I2.kept (t' := s2.toks) mk.keeps
  obtain ⟨t, ht, _, _⟩ := mk.there
  exact hxe _ _ (leave_first I3 hex hstk ht rfl rfl rfl (I2.fresh_of mk.new) (I2.new0 hex mk.new) q2)
/-- THE RULE for a def that raises -/
theorem Fun.okX {P : Program} {w : World} {K : PySem.W.Frag} {mg : Str → Option Value} {base : Heap} {x qual : Str} {st : Stmt} {f : Addr} {fd : FuncData} {N ps : List Str} {k : Nat} {sp : Sp} (F : Fun K x qual st f fd) (S : FnScope N ps (defScope st)) (len : ∀ vs H Q E, sp vs H Q E → vs.length = ps.length)
    (hbody : ∀ (cdv : Value) (A : Around) (outer : List Env) (s : Shared) (H : Hp) (vs : List V) (Q : VK) (E : XK), Room k (A.deeper (envOfC qual (defScope st) s.heap.objs.size f cdv)) → sp vs H Q E →
      ∃ t, PSs (cxOf (CXE P w) P w K mg base N qual (defScope st) f cdv A outer s H E) (defBody st) t ∧ t { nx := fun _ H' => Q .non H', rt := Q } (start N vs) H) : FnOk P w K mg base (CXE P w) (k + 1) f fd ps sp := by
  obtain ⟨oc, od, kV, doc, pm, an, cdv, ct, osl, rfl, lk, hcd⟩ := F.ex
  exact fn_of lk hcd S len fun A outer s H vs Q E hr hsp => hbody cdv A outer s H vs Q E hr hsp
end L2
namespace L2
open PySem PySem.Spec PyProof.Rows
/-- a def of the text that may raise -/
def HasX (P : Program) (w : World) (K : PySem.W.Frag) (mg : Str → Option Value) (base : Heap) (k : Nat) (x : Str) (ps : List Str) (sp : Sp) : Prop :=
  ∃ (f : Addr) (fd : FuncData), FnOk P w K mg base (CXE P w) k f fd ps sp ∧ mg x = some (.ref f) ∧ PySem.W.keepIn K (.ref f) = true ∧ Binds K fd ps []
section
variable {X : Cx} {pins : List (Addr × Obj)} {σ : St} {H : Hp} {s : Shared} {h' : Heap} {a T : Addr} {oe : Obj}
theorem run_callX {W : Value → Shared → Prop} {k : Nat} {x : Str} {ps : List Str} {sp : Sp} {p pos : Pos} {e : Expr} {es : List Expr} {t : TA} {Q : VK} {E : XK} (C : HasX X.prog X.w X.K X.mg X.base k x ps sp) (hr : Room k X.A) (hg : Gl X x) (ha : PA (X.wish W) (e :: es) t)
    (I : Inv X pins σ H s) (h : t σ H fun vs H1 => sp vs H1 Q E) (hx : ∀ H1 s1 e' s', Inv X pins σ H1 s1 → CXE X.prog X.w X.stack H1 s1 E e' s' → W e' s')
    (hdb : (x == ("__debug__" : Str)) = false := by decide) (he : starEach (e :: es) X.env = (false, eval e X.env) :: starEach es X.env := by rfl) (hpl : (backTo pos (starEach es X.env)).any (·.1) = false := by rfl) :
    wpAny (model X.prog X.w) X.A (eval (.Call (.Name x p) (e :: es) [] pos) X.env) (EP X pins σ Q) W s := by
  obtain ⟨f, fd, F, hm, hk, hb⟩ := C
  refine wpAny_Call_Name_kw (ld_glob (X := X.wish W) (I.wish W) hg hm ?_ hdb)
  refine PySem.W.callWith_K (h₀ := X.base) I.ok.mod.kin hk (thn (ha pos pins s σ H _ (I.wish W) h) fun us s1 ⟨vs, H1, I1, r, q⟩ => ⟨I1.kIn, ?_⟩) he hpl
  have I1 := I1.unwish
  have hl : us.length = ps.length := by rw [← r.length]; exact F.len _ _ _ _ q
  have bt := hb s1 us I1.kIn (by rw [List.append_nil]; exact hl)
  rw [List.append_nil] at bt
  refine wpAny_call (codeAny_mono (F.run X.A X.stack s1 H1 ⟨us, []⟩ us vs Q E hr I1.env0 bt r q) fun r s' hq => ?_)
  cases r with
  | error e => exact hx H1 s1 e s' I1 hq
  | ok fl =>
    cases fl with
    | ret u => exact I1.after hq
    | next => exact False.elim hq
    | brk => exact False.elim hq
    | cont => exact False.elim hq
theorem frs_stk (hstk : X.stack = X.env :: X.outer ∧ X.env.frame = some X.env.locals) : frs X.stack = X.env.locals :: X.fs := by
  rw [hstk.1]
  unfold frs
  rw [List.filterMap_cons, hstk.2]
  rfl
/-- over a heap in which only xs and the frames' slots are other -/
theorem Inv.stays {t' : Nat} {xs : List Addr} (I : Inv X pins σ H s) (hex : X.ex = []) (hcl : X.env.cells = []) (hstk : X.stack = X.env :: X.outer ∧ X.env.frame = some X.env.locals) (st : Stays X xs s.heap h') (hx : ∀ b ∈ xs, H b = none) (hx0 : ∀ b ∈ xs, X.s₀.heap.get? b = none)
    (hp : ∀ p ∈ X.pn ++ pins, p.1 ∉ xs) : Inv X pins σ H { s with heap := h', toks := t' } := by
  have fr := frs_stk hstk
  refine ⟨I.ok, I.os, I.bare, ?_, ?_, fun x c e => ?_, I.free, I.freeC, fun p hp' => ?_, I.stays_hok st hx, I.len⟩
  · have := I.stays_un hex st hx0 hstk
    rw [hex]
    exact this
  · obtain ⟨m, hn, hl⟩ := I.loc
    obtain ⟨o, es, ep, ho, hd, r⟩ := hn
    obtain ⟨sl, e1⟩ := st.slot _ o (by rw [fr]; exact List.mem_cons_self ..) ho
    refine ⟨m, ⟨_, es, ep, e1, hd, r⟩, fun i x v f1 f2 f3 => ?_⟩
    obtain ⟨u, ru, lk⟩ := hl i x v f1 f2 f3
    refine ⟨u, ru, ?_⟩
    rcases lk with z | ⟨z, c, ec, hc⟩
    · exact .inl z
    · rw [hcl] at ec; cases ec
  · rw [hcl] at e; cases e
  · obtain ⟨q1, q2, q3, q4, q5⟩ := I.pin p hp'
    refine ⟨st.keep p.1 p.2 (hp p hp') (fun m => ?_) q1, q2, q3, q4, q5⟩
    rw [fr] at m
    rcases List.mem_cons.mp m with z | z
    · exact q3 z
    · exact q4 z
/-- the context of an except suite: the exception is at a -/
def Cx.hnd (X : Cx) (a : Addr) (oe : Obj) : Cx := { X with A := X.A.mark (some (.ref a)), calm := false, xe := fun _ _ => False, pn := X.pn ++ [(a, oe)] }
theorem Inv.hnd (I : Inv X pins σ H s) (ha : s.heap.get? a = some oe) (hn : H a = none) (hL : a ≠ X.env.locals) (hf : a ∉ X.fs) (hc : ∀ v, oe.data ≠ .cell v) : Inv (X.hnd a oe) pins σ H s := by
  refine ⟨⟨I.ok.mod, I.ok.kind, I.ok.glob, I.ok.blt, I.ok.above, I.ok.inj, I.ok.has, I.ok.cab, (fun z => nomatch z), I.ok.frames, I.ok.stk, I.ok.exf, I.ok.bs, I.ok.bsz, I.ok.noex, I.ok.exfs, I.ok.funs, I.ok.frf⟩, I.os, I.bare, I.base, I.loc, I.cell, I.free, I.freeC, fun p hp => ?_, I.hok, I.len⟩
  have hp : p ∈ (X.pn ++ [(a, oe)]) ++ pins := hp
  rcases List.mem_append.mp hp with z | z
  · rcases List.mem_append.mp z with z | z
    · exact I.pin p (List.mem_append_left _ z)
    · rw [List.mem_singleton.mp z]
      exact ⟨ha, hn, hL, hf, hc⟩
  · exact I.pin p (List.mem_append_right _ z)
theorem Inv.unhnd (I : Inv (X.hnd a oe) pins σ H s) (ok : X.Ok) : Inv X pins σ H s :=
  ⟨ok, I.os, I.bare, I.base, I.loc, I.cell, I.free, I.freeC, fun p hp => I.pin p (show p ∈ (X.pn ++ [(a, oe)]) ++ pins from (List.mem_append.mp hp).elim (fun z => List.mem_append_left _ (List.mem_append_left _ z)) fun z => List.mem_append_right _ z), I.hok, I.len⟩
/-- the names' values are forgotten -/
theorem Inv.names {t' : Nat} {m' : Str → Option Value} (I : Inv X pins σ H s) (hn : h'.Ns X.env.locals m') (hs : Heap.SameBut X.env.locals s.heap h') : Inv X pins (List.replicate X.N.length none) H { s with heap := h', toks := t' } := by
  have lt0 : ∀ b o, X.s₀.heap.get? b = some o → b ≠ X.env.locals := fun b o e => Nat.ne_of_lt (Nat.lt_of_lt_of_le (Heap.lt_size e) I.ok.above)
  refine ⟨I.ok, I.os, I.bare, ⟨fun b o e n hb hx => ?_, fun b o e n hb hx => ?_, I.base.free, fun b o e hx => ?_, I.base.tups, I.base.frzs, I.base.tbls⟩, ⟨m', hn, fun j y v e1 e2 e3 => ?_⟩, fun y c e => ?_, I.free, I.freeC, fun p hp => ?_, fun b u e => ?_, List.length_replicate⟩
  · exact (hs.2 b (lt0 b o e)).trans (I.base.keep b o e n hb hx)
  · obtain ⟨sl, e1⟩ := I.base.slot b o e n hb hx
    exact ⟨sl, (hs.2 b (lt0 b o e)).trans e1⟩
  · obtain ⟨o', e1⟩ := I.base.there b o e hx
    exact ⟨o', (hs.2 b (lt0 b o e)).trans e1⟩
  · rw [List.getElem?_replicate] at e2
    split at e2 <;> cases e2
  · obtain ⟨v, o, ho, hd⟩ := I.cell y c e
    exact ⟨v, o, (hs.2 c (I.cne y c e)).trans ho, hd⟩
  · obtain ⟨q1, q2, q3, q4, q5⟩ := I.pin p hp
    exact ⟨(hs.2 _ q3).trans q1, q2, q3, q4, q5⟩
  · refine (I.hok b u e).stay (fun c w' hc q => (hs.2 c ?_).trans q) (fun _ q => q) fun _ _ q => q
    rintro rfl
    rcases hc with rfl | hc
    · rw [I.free] at e; cases e
    · rw [I.free] at hc; cases hc
end
/-- try: f(..) except C as n: .. -/
def tTryCall (K : PySem.W.Frag) (sp : Sp) (ta : TA) (i len : Nat) (CT : Value) (ts : Addr → Value → TS) : TS := fun D σ H => ta σ H fun vs H1 => sp vs H1 (fun _ H2 => D.nx σ H2) fun cls _ H2 =>
  PySem.W.exmOne K cls CT = some true ∧ ∀ a, H2 a = none → ts a cls { nx := fun _ H3 => D.nx (List.replicate len none) H3, rt := D.rt, bk := fun _ H3 => D.bk (List.replicate len none) H3, ct := fun _ H3 => D.ct (List.replicate len none) H3 } (σ.set i (some (.ref a))) H2
theorem ps_tryCall {X : Cx} {k i : Nat} {x c n : Str} {ps : List Str} {sp : Sp} {p np cpos xpos hpos tpos : Pos} {e : Expr} {es : List Expr} {ta : TA} {C : Addr} {b₀ : Stmt} {suite : List Stmt} {ts : Addr → Value → TS} (hc : X.calm = true) (hex : X.ex = []) (hcl : X.env.cells = [])
    (hstk : X.stack = X.env :: X.outer ∧ X.env.frame = some X.env.locals) (Cf : HasX X.prog X.w X.K X.mg X.base k x ps sp) (hr : Room k X.A) (hg : Gl X x) (ha : ∀ W, PA (X.wish W) (e :: es) ta) (hgc : Gl X c) (hmc : X.mg c = some (.ref C)) (hN : X.N.Nodup) (hi : X.N[i]? = some n) (hn : X.env.scope.names.lookup n = some .local)
    (hs : ∀ a oe cls, oe.cls = cls → PSs (X.hnd a oe) (b₀ :: suite) (ts a cls)) (hdb : (x == ("__debug__" : Str)) = false := by decide) (hdc : (c == ("__debug__" : Str)) = false := by decide) (he : starEach (e :: es) X.env = (false, eval e X.env) :: starEach es X.env := by rfl) (hpl : (backTo cpos (starEach es X.env)).any (·.1) = false := by rfl)
    (hsw : swapsWith (.Call (.Name x p) (e :: es) [] cpos) none xpos.line X.env = pure false := by rfl) :
    PS X (.Try [.Expr (.Call (.Name x p) (e :: es) [] cpos) xpos] [.ExceptHandler (some (.Name c np)) (some n) (b₀ :: suite) hpos] [] [] tpos) (tTryCall X.K sp ta i X.N.length (.ref C) ts) := by
  intro pins s σ H D I h
  have fr := frs_stk hstk
  refine wpAny_Try_except (wpAny_execs_cons (wpAny_Expr_any (thn (run_callX (Q := fun _ H2 => D.nx σ H2) Cf hr hg (ha _) I h (fun H1 s1 e' s' I1 cx => ?_) hdb he hpl) fun v s1 ⟨y, H1, I1, r1, q1⟩ => ?_) I.quiet hsw))
  · obtain ⟨a, T, cls, H', ee, I2, ha0, hT0, na, nT, fl, hm, hts⟩ := I1.behind cx
    subst ee
    have n0a := I1.new0 hex na
    have n0T := I1.new0 hex nT
    have two : ∀ b ∈ [a, T], b = a ∨ b = T := fun b hb => by simpa using hb
    have un : ∀ b ∈ [a, T], H' b = none := fun b hb => by rcases two b hb with z | z <;> rw [z] <;> assumption
    have u0 : ∀ b ∈ [a, T], X.s₀.heap.get? b = none := fun b hb => by rcases two b hb with z | z <;> rw [z] <;> assumption
    have pn : ∀ p ∈ X.pn ++ pins, p.1 ∉ [a, T] := fun p hp m => by
      have := (I1.pin p hp).1
      rcases two _ m with z | z
      · rw [z, na] at this; cases this
      · rw [z, nT] at this; cases this
    have kf : X.A.frames = some (X.env :: X.outer) := by rw [I.ok.frames, hstk.1]
    obtain ⟨oe, vs, a0, oT, tvs, f1, fc, f0, fd, f2, nTa, fT, fdT, f3⟩ := fl
    have FL : Heap.FlyingW (PySem.W.hideAll s'.heap ([a, T] ++ frs X.stack)) (X.env :: X.outer) a cls a0 s'.heap :=
      ⟨fun b o q => PySem.W.of_hideAll _ q, PySem.W.hideAll_none _ (by simp), I2.hid hstk.1 [a, T], oe, vs, T, oT, tvs, f1, ⟨fc, f0⟩, fd, f2, PySem.W.hideAll_none _ (by simp), nTa, fT, fdT, f3⟩
    have stay : ∀ h5, (PySem.W.hideAll s'.heap ([a, T] ++ frs X.stack)).StaysIn h5 → s'.heap.UpToSlots h5 → Stays X [a, T] s'.heap h5 := fun h5 k1 k2 =>
      ⟨fun b o b1 b2 q => k1 b o (PySem.W.hideAll_get _ q fun m => (List.mem_append.mp m).elim b1 b2), fun b o hb q => by
        obtain ⟨_, o', e', nf⟩ := I2.stack.mem hb
        rw [q] at e'
        cases e'
        exact k2 b o q nf⟩
    refine wpAny_looks_onW kf hstk.2 FL fun h4 held4 up4 => wpAny_landsW held4 fun h5 fl5 up5 => ?_
    have J5 : Inv X pins σ H' { s' with heap := h5 } := I2.stays (t' := s'.toks) hex hcl hstk (stay h5 fl5.1 (up4.trans up5)) un u0 pn
    obtain ⟨ob, hob, hobc⟩ := fl5.there
    have dat5 : ∃ ws, ob.data = .fields ws := by
      obtain ⟨_, _, _, oe5, ws, _, _, _, g1, _, g2, _⟩ := fl5
      rw [g1] at hob
      cases hob
      exact ⟨ws, g2⟩
    have aL : a ≠ X.env.locals := fun z => by
      obtain ⟨m, ⟨o, es, ep, ho, hd, _⟩, _⟩ := J5.loc
      obtain ⟨ws, hw⟩ := dat5
      rw [z] at hob
      have := hob.symm.trans ho
      cases this
      rw [hw] at hd
      cases hd
    have afs : a ∉ X.fs := fun m => by
      obtain ⟨_, o, ho, _⟩ := I1.ok.funs.mem m
      rw [n0a] at ho
      cases ho
    have ncell : ∀ (ob : Obj), (∃ ws, ob.data = .fields ws) → ∀ v, ob.data ≠ .cell v := fun ob ⟨ws, hw⟩ v q => by rw [hw] at q; cases q
    have JH5 := J5.hnd hob ha0 aL afs (ncell ob dat5)
    refine wpAny_handleBy_cons (codeAny_handlers_test (ld_glob (X := X.hnd a ob) JH5 hgc hmc ?_ hdc)) (by intro q; cases q)
    have LT : PySem.W.Looks (model X.prog X.w) h5 (typeOf (.ref a)) cls := by
      rw [← hobc]
      exact (PySem.W.Looks.ld hob).andThen .now
    refine (PySem.W.exm_one (JH5.kIn) LT hm).here ?_
    show codeAny _ _ (.handlers (.ref a) [.ExceptHandler none (some n) (b₀ :: suite) hpos] X.env) _ _
    refine codeAny_handlers_suite_as (lands_againW fl5 fun h6 fl6 up6 => ?_)
    have J6 : Inv X pins σ H' { s' with heap := h6 } := I2.stays (t' := s'.toks) hex hcl hstk (stay h6 fl6.1 ((up4.trans up5).trans up6)) un u0 pn
    obtain ⟨oc, hoc, hocc⟩ := fl6.there
    have dat6 : ∃ ws, oc.data = .fields ws := by
      obtain ⟨_, _, _, oe6, ws, _, _, _, g1, _, g2, _⟩ := fl6
      rw [g1] at hoc
      cases hoc
      exact ⟨ws, g2⟩
    have JH6 := J6.hnd hoc ha0 aL afs (ncell oc dat6)
    refine store_ok (X := X.hnd a oc) (i := i) JH6 hN hi (.inl hn) (v := .ref a) (u := .ref a) rfl (fun s7 J7 => ?_) (.inr hn)
    refine wpAny_mono (hs a oc cls hocc pins s7 _ H' _ J7 (hts a ha0)) (fun f s8 q8 => ?_) fun _ _ z => nomatch z
    have hp : (X.env.scope.kind == .class || (X.env.scope.kind == .module && X.env.locals != X.env.globals)) = false := by rw [I.ok.kind]; rfl
    have fin : ∀ {σ8 : St} {H8 : Hp}, Inv (X.hnd a oc) pins σ8 H8 s8 → (∀ s9, Inv X pins (List.replicate X.N.length none) H8 s9 → SP X pins D f s9) → wpAny (model X.prog X.w) X.A (do bindName X.env n .none; unbindBehindTheSuite X.env n hpos) (fun _ s9 => SP X pins D f s9) X.xe s8 := by
      intro σ8 H8 J8 go
      have J8 := J8.unhnd I.ok
      obtain ⟨m, hm8, _⟩ := J8.loc
      exact wpAny_nameGoes hn hm8 hp fun h9 m9 hn9 hs9 => go _ (J8.names hn9 hs9)
    cases f with
    | next => obtain ⟨σ8, H8, J8, q⟩ := q8; exact fin J8 fun s9 J9 => ⟨_, H8, J9, q⟩
    | brk => obtain ⟨σ8, H8, J8, q⟩ := q8; exact fin J8 fun s9 J9 => ⟨_, H8, J9, q⟩
    | cont => obtain ⟨σ8, H8, J8, q⟩ := q8; exact fin J8 fun s9 J9 => ⟨_, H8, J9, q⟩
    | ret u => obtain ⟨v, σ8, H8, J8, rv, q⟩ := q8; exact fin J8 fun s9 J9 => ⟨v, _, H8, J9, rv, q⟩
  · exact wpAny_execs_nil (wpAny_execs_nil ⟨σ, H1, I1, q1⟩)
/-- f(..), f may raise, but does not here -/
theorem pe_callX {X : Cx} {k : Nat} {x : Str} {ps : List Str} {sp : Sp} {p pos : Pos} {e : Expr} {es : List Expr} {t : TA} (C : HasX X.prog X.w X.K X.mg X.base k x ps sp) (hr : Room k X.A) (hg : Gl X x) (ha : PA X (e :: es) t)
    (hdb : (x == ("__debug__" : Str)) = false := by decide) (he : starEach (e :: es) X.env = (false, eval e X.env) :: starEach es X.env := by rfl) (hpl : (backTo pos (starEach es X.env)).any (·.1) = false := by rfl) : PE X (.Call (.Name x p) (e :: es) [] pos) (tCallH sp t) :=
  fun pins s σ H Q I h => run_callX (W := X.xe) C hr hg ha I h (fun H1 s1 e' s' I1 cx => by
    obtain ⟨a, T, cls, H', _, _, _, _, _, _, _, _, hE⟩ := I1.behind cx) hdb he hpl
end L2
namespace PySem.W
open PySem PySem.Spec PySem.Calls PyProof.Rows PySem.Builtin PySem.Builtin.ObjectAttr PySem.Builtin.Getset_descriptor
section
variable {prog : Program} {w : World} {A : Around} {E : Value → Shared → Prop} {s : Shared} {K : Frag} {x C : Addr} {R : Result → Shared → Prop}
theorem xc_get {tp : Value} (X : K.In s.heap) (T : ∀ M, Looks M s.heap (typeOf (.ref x)) (.ref C)) (hm : mroIn K C (.type "object") = some true) (h : R (.ok (.ret (.ref C))) s) :
    codeAny (model prog w) A (.call (.builtin "getset_descriptor.__get__") ⟨[.builtin "object.__class__", .ref x, tp], []⟩) R s := by
  obtain ⟨hh, g, dr, t, os⟩ := s
  have L0 := T (model prog w)
  have L1 := looks_mroIn (M := model prog w) X hm
  refine codeAny_call_builtin KF.slot_gs.plain KF.entry_gs (KF.slot_gs.check _ _ _ _ _ _ _ _ KF.type_class (KF.args_gs _ _ _) ?_)
  unfold Builtin.«getset_descriptor.__get__» descrGet
  rw [dga_obj]
  refine wpAny_bind (wpAny_pure ?_)
  unfold descrGetter descrCheckInstance descrNameAndClass isInstance
  simp only [KF.owner_class]
  repeat lk
  refine ⟨Code.quiet_builtin _ (by decide +kernel), codeAny_builtin KF.entry_class ?_⟩
  unfold Builtin.«object.__class__» shownTypeOf
  repeat lk
  exact h
theorem xc_find {M : Model} {h : Heap} (X : K.In h) (ha : findIn K (.ref C) "__class__" = some (some (.builtin "object.__class__"))) (hn : specialIn K (.builtin "object.__class__") "__get__" = some (some (.builtin "getset_descriptor.__get__")))
    (htk : takesIn K (.builtin "object.__class__") = some true) : Looks M h (find (.ref x) (.ref C) "__class__") (.bind (.builtin "getset_descriptor.__get__") (.builtin "object.__class__")) := by
  have L1 := looks_findIn (M := M) X ha
  have L2 : Looks M h (getOf (some (.builtin "object.__class__"))) (some (.builtin "getset_descriptor.__get__")) := looks_specialIn X hn
  have L3 := looks_takesIn (M := M) X htk
  refine L1.andThen (L2.andThen ?_)
  exact (show Looks M h (dataDescriptor? (some (.builtin "object.__class__")) (some (.builtin "getset_descriptor.__get__"))) (some (.builtin "getset_descriptor.__get__", .builtin "object.__class__")) from L3.andThen .now).andThen (Looks.tag .now)
/-- what of an exception's class must be seen -/
structure XcOk (K : Frag) (C : Addr) : Prop where
  cl : (clsIn K C).isSome = true
  ga : findIn K (.ref C) "__getattribute__" = some (some (.builtin "BaseException.__getattribute__"))
  noga : findIn K (.ref C) "__getattr__" = some none
  ca : findIn K (.ref C) "__class__" = some (some (.builtin "object.__class__"))
  get : specialIn K (.builtin "object.__class__") "__get__" = some (some (.builtin "getset_descriptor.__get__"))
  tk : takesIn K (.builtin "object.__class__") = some true
  mo : mroIn K C (.type "object") = some true
  mb : mroIn K C (.type "BaseException") = some true
theorem xc_entry {tk : Tok} {Q : Fin → Shared → Prop} (X : K.In s.heap) (T : ∀ M, Looks M s.heap (typeOf (.ref x)) (.ref C)) (O : XcOk K C) (h : Q (.done (.ret (.ref C))) s) : wpAny (model prog w) A (Builtin.«object.__getattribute__» ⟨[.ref x, .str "__class__" tk], []⟩) Q E s := by
  obtain ⟨hh, g, d, t, os⟩ := s
  have L0 := T (model prog w)
  have L1 : Looks (model prog w) hh (find (.ref x) (.ref C) "__class__") (.bind (.builtin "getset_descriptor.__get__") (.builtin "object.__class__")) := xc_find X O.ca O.get O.tk
  refine wpAny_bind (wpAny_pure (wpAny_bind (wpAny_pure (wpAny_bind (L0.at (wpAny_bind (L1.at ?_)))))))
  show wpAny _ _ (holding [.builtin "object.__class__"] (call (.builtin "getset_descriptor.__get__") [.builtin "object.__class__", .ref x, .ref C]) >>= ret) _ _ _
  exact wpAny_bind (wpAny_holding (wpAny_call (xc_get (s := ⟨hh, g, d, t, os⟩) X T O.mo (wpAny_pure h))))
theorem xc_call {tk : Tok} (X : K.In s.heap) (T : ∀ M, Looks M s.heap (typeOf (.ref x)) (.ref C)) (O : XcOk K C) (h : R (.ok (.ret (.ref C))) s) : codeAny (model prog w) A (.call (.builtin "BaseException.__getattribute__") ⟨[.ref x, .str "__class__" tk], []⟩) R s := by
  refine codeAny_call_builtin (by decide +kernel) F.entry_bexc_ga ?_
  have hk : builtinKind "BaseException.__getattribute__" = some .slot := by decide +kernel
  have hsp : splitId "BaseException.__getattribute__" = some ("BaseException", "__getattribute__") := by decide +kernel
  have ag := F.args_bexc_ga (.ref x) (.str "__class__" tk)
  have LI : Looks (model prog w) s.heap (isInstance (.ref x) (.type "BaseException")) true := (T _).andThen (looks_mroIn X O.mb)
  have fin := xc_entry (prog := prog) (w := w) (A := A.in1) (tk := tk) (Q := fun fin s' => match fin with | .done f => R (.ok f) s' | .again c' => c'.quiet = true ∧ codeAny (model prog w) A c' R s') (E := fun e s' => R (.error e) s') X T O h
  simp only [checkBuiltinCall, hk, hsp]
  obtain ⟨hh, g, d, t, os⟩ := s
  refine wpAny_bind (LI.at ?_)
  rw [if_neg (by decide)]
  cases hsig : Manifest.signature? "BaseException.__getattribute__" with
  | none => exact wpAny_pure fin
  | some sig =>
    have ag' : Bind.checkArgs "BaseException.__getattribute__" sig ⟨[.ref x, .str "__class__" tk], []⟩ = pure () := by simpa only [argsOk, hsig] using ag
    show wpAny _ _ (Bind.checkArgs _ sig _) _ _ _
    rw [ag']
    exact wpAny_pure fin
theorem xc_attr {Q : Option Value → Shared → Prop} (X : K.In s.heap) (T : ∀ M, Looks M s.heap (typeOf (.ref x)) (.ref C)) (O : XcOk K C) (h : Q (some (.ref C)) { s with toks := s.toks + 1 }) : wpAny (model prog w) A (getAttr? (.ref x) "__class__") Q E s := by
  obtain ⟨hh, g, d, t, os⟩ := s
  have L0 := T (model prog w)
  have L1 := looks_findIn (M := model prog w) X O.ga
  have L2 := looks_findIn (M := model prog w) X O.noga
  have ne : (onTheHeap (Value.ref C) && Value.builtin "BaseException.__getattribute__" == Value.builtin "object.__getattribute__") = false := by
    rw [show (Value.builtin "BaseException.__getattribute__" == Value.builtin "object.__getattribute__") = false by decide +kernel, Bool.and_false]
  unfold getAttr? getAttrBy? getAttrBy
  refine wpAny_bind (wpAny_mkText (wpAny_bind (wpAny_attempt (wpAny_holding (wpAny_bind (L0.at (wpAny_bind (L1.at ?_))))))))
  show wpAny _ _ (if (onTheHeap (Value.ref C) && Value.builtin "BaseException.__getattribute__" == Value.builtin "object.__getattribute__") = true then _ else _) _ _ _
  rw [if_neg (by rw [ne]; exact Bool.false_ne_true)]
  unfold getAttrByItsOwn
  refine wpAny_bind (L2.at ?_)
  refine wpAny_bind (wpAny_attempt (wpAny_holding ?_))
  show wpAny _ _ (bindSpecial (.builtin "BaseException.__getattribute__") (.ref x) >>= fun gf => call gf.1 (gf.2 ++ [.str "__class__" t])) _ _ _
  rw [F.excAttr_ValueError.ga.bind (.ref x), pure_bind]
  refine wpAny_call (xc_call (s := ⟨hh, g, d, t + 1, os⟩) X T O ?_)
  exact handed_on rfl (wpAny_pure h)
/-- isinstance answers by the class -/
theorem kitx_exc {oe : Obj} (hc : oe.cls = .ref C) (O : XcOk K C) : KitX K (.ref x) (.ref C) (fun h => h.get? x = some oe) where
  ty := fun M h _ p => hc ▸ (Looks.ld p).andThen .now
  it := fun M h X _ => by
    obtain ⟨cd, hcD⟩ := Option.isSome_iff_exists.mp O.cl
    unfold clsIn at hcD
    split at hcD
    · rename_i c' d' cd' sl' ho
      intro A' Q' E' s' k q
      unfold isType loadHead
      exact wpAny_bind (wpAny_loadPart (k _ _ (X _ _ ho)) (wpAny_pure q))
    · cases hcD
  ne := fun h tp dd its n sl X htp => by
    obtain ⟨cd, hcD⟩ := Option.isSome_iff_exists.mp O.cl
    refine Bool.eq_false_iff.mpr fun q => ?_
    have e : C = tp := Value.ref.inj (beq_iff_eq.mp q)
    subst e
    unfold clsIn at hcD
    split at hcD
    · rename_i c' d' cd' sl' ho
      have z := (X _ _ ho).symm.trans htp
      cases z
    · cases hcD
  ca := fun X p k => xc_attr X (fun M => hc ▸ (Looks.ld p).andThen .now) O k
end
end PySem.W
namespace L2
open PySem PySem.Spec PyProof.Rows
def clsV : V → Option Value
  | .ref C => some (.ref C)
  | .ty n => some (.type n)
  | _ => none
theorem clsV_rel {v : V} {c u : Value} (h : clsV v = some c) (r : RelV v u) : u = c := by
  cases v with
  | ref C => cases h; exact r
  | ty n => cases h; exact r
  | _ => cases h
/-- isinstance(e, C), isinstance(e, (C, ..)), e the exception that is caught -/
def rIsX (K : PySem.W.Frag) (a : Addr) (cls : Value) : List V → Hp → VK → Prop := fun xs H Q => ∃ C c, cls = .ref C ∧ PySem.W.XcOk K C ∧ xs = [.ref a, c] ∧ ((∃ u b, clsV c = some u ∧ PySem.W.kitOne K cls u = some b ∧ Q (.bl b) H) ∨
  ∃ tp cs us b, c = .ref tp ∧ H tp = some (.tup cs) ∧ cs.map clsV = us.map some ∧ PySem.W.kitAny K cls us = some b ∧ Q (.bl b) H)
theorem call_isX {X : Cx} {a : Addr} {oe : Obj} {cls : Value} (hcl : oe.cls = cls) : CallR (X.hnd a oe) (.builtin "isinstance") (rIsX X.K a cls) := by
  intro pins s σ H xs us Q I r h
  obtain ⟨C, c, hC, O, rfl, h⟩ := h
  have hc : oe.cls = .ref C := hcl.trans hC
  cases r with
  | cons ra r =>
    cases r with
    | cons rc r =>
      cases r
      cases ra
      have pin := (I.pin (a, oe) (List.mem_append_left _ (List.mem_append_right _ (List.mem_singleton.mpr rfl)))).1
      rw [hC] at h
      rcases h with ⟨u, b, hu, hk, q⟩ | ⟨tp, cs, us, b, rfl, ht, hm, hk, q⟩
      · rw [clsV_rel hu rc]
        exact PySem.W.kia_one (PySem.W.kitx_exc hc O) I.kIn pin hk (fun z => nomatch z) fun tk => ⟨.bl b, H, I.tok _, rfl, q⟩
      · cases rc
        obtain ⟨z, its, rv, o, h1, h2, n, h3⟩ := (show ObjOk X.prog X.w H s.heap tp (.tup cs) from I.hok tp _ ht)
        have ei : its = us := by
          have gen : ∀ {cs : List V} {its us : List Value}, Vals cs its → cs.map clsV = us.map some → its = us := by
            intro cs its us r
            induction r generalizing us with
            | nil => intro e; cases us with | nil => rfl | cons _ _ => cases e
            | cons r t ih =>
              intro e
              cases us with
              | nil => cases e
              | cons u us =>
                rw [List.map_cons, List.map_cons] at e
                rw [clsV_rel (List.cons.inj e).1 r, ih (List.cons.inj e).2]
          exact gen rv hm
        subst ei
        obtain ⟨c', d', dt', sl'⟩ := o
        replace h2 : c' = .type "tuple" := h2
        replace h3 : dt' = .seq its.toArray n := h3
        subst h2 h3
        exact PySem.W.kia_tup (PySem.W.kitx_exc hc O) I.kIn pin h1 hk (fun z => nomatch z) fun tk => ⟨.bl b, H, I.tok _, rfl, q⟩
end L2
namespace L2
open PySem PySem.Spec PyProof.Rows
theorem key_is {P : Program} {w : World} {k : Key} {u : Value} (r : RelV (kV k) u) : (mixKind P w).is k u = true := by
  cases k with
  | inl i => obtain ⟨t, e⟩ := (show ∃ t, u = Value.int i t from r); subst e; exact mixKind_int P w i t
  | inr x => obtain ⟨t, e⟩ := (show ∃ t, u = Value.str x t from r); subst e; exact mixKind_str P w x t
end L2
namespace L2
open PySem PySem.Spec PySem.Calls PyProof.Rows
theorem list_no_keys : typeLookup (.type "list") "keys" = pure none := by rw [typeLookup_type, builtinLookup_eq_fast]; kernel_rfl
theorem list_no_getattr : typeLookup (.type "list") "__getattr__" = pure none := by rw [typeLookup_type, builtinLookup_eq_fast]; kernel_rfl
theorem entry_list_ga : entryFor table "list.__getattribute__" = some Builtin.«object.__getattribute__» := entryFor_alias (id' := "object.__getattribute__") (by kernel_rfl) (by decide +kernel) (by decide +kernel) (by kernel_rfl)
theorem miss_list (l : Addr) (u : Tok) (its : Array Value) (n : Nat) : Meets (Builtin.«object.__getattribute__» ⟨[.ref l, .str "keys" u], []⟩) (fun A R s => s.heap.get? l = some { cls := .type "list", data := .seq its n } ∧ raisesAttr (.ref l) "keys" A R s) :=
  Meets.of_wp fun prog w A R s hs => by
    obtain ⟨hp, g, d, tk, os⟩ := s
    obtain ⟨ho, hs⟩ := hs
    have hT : Shared.TypeIs ⟨hp, g, d, tk, os⟩ (.ref l) "list" := ⟨_, ho, rfl⟩
    have f1 := list_no_keys
    unfold Builtin.«object.__getattribute__»
    repeat (any_goals (first | assumption | wp_step))
    exact wpAny_raiseAttrError hs.1 hs.2 (attrMsg_fits (by decide +kernel) (by rw [sizeLine_eq]; decide +kernel))
theorem list_keys {prog : Program} {w : World} {A : Around} {E : Value → Shared → Prop} {s : Shared} {l : Addr} {its : Array Value} {n : Nat} {Q : Option Value → Shared → Prop} (hA : A.handled = none) (ho : s.heap.get? l = some { cls := .type "list", data := .seq its n })
    (h : ∀ h' tk, (∀ b o, s.heap.get? b = some o → h'.get? b = some o) → Q none { s with heap := h', toks := tk }) : wpAny (model prog w) A (getAttr? (.ref l) "keys") Q E s := by
  obtain ⟨hp, g, d, tk, os⟩ := s
  have f1 := sub_AttributeError
  have f3 := F.slot_list_getattribute.lookup
  have f4 := F.slot_list_getattribute.bind (.ref l)
  have f5 := list_no_getattr
  have hT : Shared.TypeIs ⟨hp, g, d, tk, os⟩ (.ref l) "list" := ⟨_, ho, rfl⟩
  unfold getAttr? getAttrBy? getAttrBy
  repeat (any_goals (first | assumption | ((with_reducible show wpAny _ _ (call (Value.builtin "list.__getattribute__") _ _) _ _ _); refine call_meets F.slot_list_getattribute hT entry_list_ga (F.args_list_getattribute_2 _ _) (miss_list l _ its n) ⟨ho, hA, fun h' tk' e hx => ?_⟩) | wp_step))
  obtain ⟨t', u', he⟩ := hx.there
  show wpAny _ _ (getattributeRaised _ _ _ _ _ _ _) _ _ _
  unfold getattributeRaised
  repeat (any_goals (first | assumption | wp_step))
  exact h _ _ hx.keeps
theorem entry_dict_loop : entryFor table "dict.update.loop" = some Builtin.«dict.update.loop» := entryFor_of_tree (by kernel_rfl)
theorem plain_dict_loop : plainId "dict.update.loop" = true := by decide +kernel
section
variable {prog : Program} {w : World} {A : Around} {E : Value → Shared → Prop} {s : Shared} {p : Addr} {a b : Value}
theorem pair_items {Q : List Value → Shared → Prop} (hp : s.heap.IsTuple p #[a, b]) (h : Q [a, b] s) : wpAny (model prog w) A (Builtin.Dict.pairItems (.ref p)) Q E s := by
  obtain ⟨hh, g, d, tk, os⟩ := s
  obtain ⟨⟨c, dd, dt, sl⟩, ho, hc, n, hd⟩ := hp
  obtain rfl : c = .type "tuple" := hc
  obtain rfl : dt = .seq #[a, b] n := hd
  unfold Builtin.Dict.pairItems
  repeat (any_goals (first | assumption | wp_step))
end
end L2
namespace L2
open PySem PySem.Spec PySem.Calls PyProof.Rows
section
variable {prog : Program} {w : World} {A : Around} {R : Result → Shared → Prop} {K : Type} [DecidableEq K] {knd : KeyKind prog w K} {D l it : Addr} {items : Array Value} {ks : List (K × Value)}
/-- the pairs of the list, as they lie -/
def PairsAt (knd : KeyKind prog w K) (items : Array Value) (ks : List (K × Value)) (h : Heap) : Prop := items.size = ks.length ∧ ∀ (j : Nat) (k : K) (v : Value), ks[j]? = some (k, v) → ∃ p key, items[j]? = some (.ref p) ∧ h.IsTuple p #[key, v] ∧ knd.is k key = true
theorem dict_loop (hA : A.handled = none) (lz : ks.length ≤ 1000) : ∀ (m i : Nat) (s : Shared) (kvs : List (K × Value)), ks.length - i = m → i ≤ ks.length → kvs.length ≤ i → s.heap.IsListIter it l i → s.heap.IsList l items → s.heap.DictOf knd D kvs → PairsAt knd items ks s.heap →
    (∀ h' tk, h'.DictOf knd D ((ks.drop i).foldl (fun kvs q => stored kvs q.1 q.2) kvs) → (∀ b o, b ≠ D → b ≠ it → s.heap.get? b = some o → h'.get? b = some o) → R (.ok (.ret .none)) { s with heap := h', toks := tk }) →
    codeAny (model prog w) A (.builtin "dict.update.loop" ⟨[.ref D, .ref it, rawInt (i : Int), .none], []⟩) R s := by
  intro m
  induction m with
  | zero =>
    intro i s kvs hm hi hk hit hl hd pa hR
    have e : i = ks.length := by omega
    refine codeAny_builtin entry_dict_loop ?_
    rw [Around.under_plainId plain_dict_loop _]
    show wpAny _ A.in1 (pyNext (.ref it) >>= _) _ _ s
    refine wpAny_bind (wpAny_pyNext_list_end (show A.in1.handled = none from hA) hit hl (by rw [Array.getElem?_eq_none (by rw [pa.1]; omega)]) fun h' eb => ?_)
    have dne : D ≠ it := by
      obtain ⟨o, _, _, ho, hx, _⟩ := hd
      obtain ⟨o', ho', hc', _⟩ := hit
      rintro rfl
      rw [ho] at ho'
      cases ho'
      rw [hx.1] at hc'
      exact absurd hc' (by decide)
    have := hR h' s.toks (by rw [e, List.drop_length]; exact hd.extBut eb dne) fun b o _ hb z => eb b o hb z
    exact wpAny_bind (wpAny_pure (wpAny_pure this))
  | succ m ih =>
    intro i s kvs hm hi hk hit hl hd pa hR
    have hlt : i < ks.length := by omega
    obtain ⟨⟨k, v⟩, hkv⟩ : ∃ q, ks[i]? = some q := ⟨ks[i], List.getElem?_eq_getElem hlt⟩
    obtain ⟨p, key, hp1, hp2, hp3⟩ := pa.2 i k v hkv
    have tne : ∀ {q : Addr} {xs : Array Value}, s.heap.IsTuple q xs → q ≠ it ∧ q ≠ D := fun {q xs} ⟨o, ho, hc, _⟩ => by
      constructor
      · rintro rfl
        obtain ⟨o', ho', hc', _⟩ := hit
        rw [ho] at ho'
        cases ho'
        rw [hc] at hc'
        exact absurd hc' (by decide)
      · rintro rfl
        obtain ⟨o', _, _, ho', hx, _⟩ := hd
        rw [ho] at ho'
        cases ho'
        have hx := hx.1
        rw [hc] at hx
        exact absurd hx (by decide)
    have dne : D ≠ it := by
      obtain ⟨o, _, _, ho, hx, _⟩ := hd
      obtain ⟨o', ho', hc', _⟩ := hit
      rintro rfl
      rw [ho] at ho'
      cases ho'
      rw [hx.1] at hc'
      exact absurd hc' (by decide)
    have lne : l ≠ it ∧ l ≠ D := by
      obtain ⟨o, ho, hc, _⟩ := hl
      constructor
      · rintro rfl
        obtain ⟨o', ho', hc', _⟩ := hit
        rw [ho] at ho'
        cases ho'
        rw [hc] at hc'
        exact absurd hc' (by decide)
      · rintro rfl
        obtain ⟨o', _, _, ho', hx, _⟩ := hd
        rw [ho] at ho'
        cases ho'
        have hx := hx.1
        rw [hc] at hx
        exact absurd hx (by decide)
    refine codeAny_builtin entry_dict_loop ?_
    rw [Around.under_plainId plain_dict_loop _]
    show wpAny _ A.in1 (pyNext (.ref it) >>= _) _ _ s
    refine wpAny_bind (wpAny_pyNext_list_item hit hl hp1 fun h1 hit1 sb1 => ?_)
    have pa1 : PairsAt knd items ks h1 := ⟨pa.1, fun j k v h => let ⟨p, key, a, b, c⟩ := pa.2 j k v h; ⟨p, key, a, let ⟨o, ho, r⟩ := b; ⟨o, (sb1.2 p (tne ⟨o, ho, r⟩).1).trans ho, r⟩, c⟩⟩
    have hl1 : h1.IsList l items := let ⟨o, ho, r⟩ := hl; ⟨o, (sb1.2 l lne.1).trans ho, r⟩
    have hd1 : h1.DictOf knd D kvs := let ⟨o, es, ep, ho, r⟩ := hd; ⟨o, es, ep, (sb1.2 D dne).trans ho, r⟩
    have hp1' : h1.IsTuple p #[key, v] := let ⟨o, ho, r⟩ := hp2; ⟨o, (sb1.2 p (tne ⟨o, ho, r⟩).1).trans ho, r⟩
    refine wpAny_bind (wpAny_holding (wpAny_bind (wpAny_tryCatch (pair_items hp1' ?_))))
    refine wpAny_holding (wpAny_dictSet_pairs (hsz := Nat.le_trans (show kvs.length ≤ 1000 by omega) (by decide)) hp3 hd1 fun h2 hd2 sb2 => ?_)
    refine wpAny_pure ⟨plainId_quiet plain_dict_loop _, ?_⟩
    have e : (i : Int) + 1 = ((i + 1 : Nat) : Int) := by omega
    rw [e]
    have ls : (stored kvs k v).length ≤ i + 1 := by
      unfold stored
      split
      · rw [List.length_map]; omega
      · rw [List.length_append]; exact Nat.succ_le_succ hk
    have ed : ks.drop i = (k, v) :: ks.drop (i + 1) := by
      rw [List.drop_eq_getElem_cons hlt]
      congr 1
      rw [List.getElem?_eq_getElem hlt] at hkv
      exact Option.some.inj hkv
    refine ih (i + 1) _ (stored kvs k v) (by omega) hlt ls ?_ ?_ hd2 ?_ fun h' tk hd' kp => ?_
    · obtain ⟨o, ho, r⟩ := hit1
      exact ⟨o, (sb2.2 it (Ne.symm dne)).trans ho, r⟩
    · obtain ⟨o, ho, r⟩ := hl1
      exact ⟨o, (sb2.2 l lne.2).trans ho, r⟩
    · refine ⟨pa.1, fun j k v h => ?_⟩
      obtain ⟨p, key, a, b, c⟩ := pa.2 j k v h
      obtain ⟨o, ho, r⟩ := b
      have t := tne ⟨o, ho, r⟩
      exact ⟨p, key, a, ⟨o, (sb2.2 p t.2).trans ((sb1.2 p t.1).trans ho), r⟩, c⟩
    · refine hR h' tk (by rw [ed]; exact hd') fun b o b1 b2 z => kp b o b1 b2 ((sb2.2 b b1).trans ((sb1.2 b b2).trans z))
theorem call_dict_list {E : Value → Shared → Prop} {s : Shared} {n : Nat} {Q : Value → Shared → Prop} (hA : A.handled = none) (lz : ks.length ≤ 1000) (ho : s.heap.get? l = some { cls := .type "list", data := .seq items n }) (pa : PairsAt knd items ks s.heap)
    (h : ∀ h' tk, h'.DictOf knd s.heap.objs.size (ks.foldl (fun kvs q => stored kvs q.1 q.2) []) → (∀ b o, s.heap.get? b = some o → h'.get? b = some o) → Q (.ref s.heap.objs.size) { s with heap := h', toks := tk }) :
    wpAny (model prog w) A (call (.type "dict") [.ref l]) Q E s := by
  refine callType_codes (Q₁ := fun obj s₁ => obj = .ref s.heap.objs.size ∧ s₁ = { s with heap := s.heap.push { cls := .type "dict", data := .dict #[] } }) F.kt_called_dict (F.kt_typeCall_dict_1 _) F.entry_dict_init (kt_code_dict_new _ ⟨rfl, rfl⟩) ?_
  rintro obj s₁ ⟨rfl, rfl⟩
  have hnew : (s.heap.push { cls := .type "dict", data := .dict #[] }).DictOf knd s.heap.objs.size [] := Heap.DictOf.new s.heap
  have ho1 := Heap.get?_push_of_some { cls := .type "dict", data := .dict #[] } ho
  refine ⟨hnew.typeIs, F.args_dict_init_2 _ _, ?_⟩
  unfold Builtin.«dict.__init__» Builtin.Dict.selfAndRest
  refine wpAny_bind (wpAny_bind (wpAny_notOrdered_dict hnew.typeIs ?_))
  show wpAny _ _ (pure (s.heap.objs.size, [Value.ref l])) _ _ _
  refine wpAny_pure ?_
  show wpAny _ _ (Builtin.Dict.updateFrom "dict.__init__" s.heap.objs.size (.ref l) [] .none) _ _ _
  unfold Builtin.Dict.updateFrom
  refine wpAny_bind (wpAny_typeOf (T := "list") ⟨_, ho1, rfl⟩ ?_)
  rw [if_pos (by decide)]
  refine wpAny_bind (list_keys (show A.in1.handled = none from hA) ho1 fun h1 tk1 k1 => ?_)
  rw [if_pos (show (none : Option Value).isNone = true from rfl)]
  have keep1 : ∀ b o, s.heap.get? b = some o → h1.get? b = some o := fun b o z => k1 b o (Heap.get?_push_of_some _ z)
  refine wpAny_bind (wpAny_rule (wpAny_bind (wpAny_pyIter_list (items := items) ⟨_, k1 _ _ ho1, rfl, _, rfl⟩ ?_)))
  have hd1 : (h1.push { cls := .type "list_iterator", data := .fields #[.ref l, .int 0 0] }).DictOf knd s.heap.objs.size [] := by
    obtain ⟨o, es, ep, g, r⟩ := hnew
    exact ⟨o, es, ep, Heap.get?_push_of_some _ (k1 _ _ g), r⟩
  refine wpAny_pure ⟨plainId_quiet plain_dict_loop _, dict_loop (A := A.in1) (l := l) (items := items) (ks := ks) (knd := knd) (show A.in1.handled = none from hA) lz _ 0 _ [] rfl (Nat.zero_le _) (Nat.le_refl _) ⟨_, Heap.get?_push_size _ rfl, rfl, rfl⟩ ⟨_, Heap.get?_push_of_some _ (k1 _ _ ho1), rfl, _, rfl⟩ hd1 ⟨pa.1, fun j k v hj => ?_⟩ fun h' tk hd' kp => ?_⟩
  · obtain ⟨p, key, a, ⟨o, ho, r⟩, c⟩ := pa.2 j k v hj
    exact ⟨p, key, a, ⟨o, Heap.get?_push_of_some _ (keep1 _ _ ho), r⟩, c⟩
  · rw [List.drop_zero] at hd'
    refine ⟨rfl, h h' tk hd' fun b o z => ?_⟩
    have b1 : b < s.heap.objs.size := Heap.lt_size z
    have b2 : b < h1.objs.size := Heap.lt_size (keep1 b o z)
    exact kp b o (Nat.ne_of_lt b1) (Nat.ne_of_lt b2) (Heap.get?_push_of_some _ (keep1 b o z))
end
end L2
namespace L2
open PySem PySem.Spec PyProof.Rows
def atK (kvs : List (Key × V)) (k : Key) : Option V := (kvs.find? fun q => decide (q.1 = k)).map (·.2)
theorem atK_val : ∀ {kvs : List (Key × V)} {vs : List (Key × Value)}, KV kvs vs → ∀ k, match atK kvs k with | none => valueAt vs k = none | some v => ∃ u, valueAt vs k = some u ∧ RelV v u
  | _, _, .nil, _ => rfl
  | _, _, .cons (a := p) (b := q) r t, k => by
    obtain ⟨h1, h3⟩ := r
    have ih := atK_val t k
    by_cases e : p.1 = k
    · have e1 : ∀ kvs, atK (p :: kvs) k = some p.2 := fun kvs => by unfold atK; rw [List.find?_cons_of_pos (by simpa using e)]; rfl
      rw [e1]
      refine ⟨q.2, ?_, h3⟩
      unfold valueAt
      rw [List.find?_cons_of_pos (by simpa [← h1] using e)]
      rfl
    · have e1 : ∀ kvs, atK (p :: kvs) k = atK kvs k := fun kvs => by unfold atK; rw [List.find?_cons_of_neg (by simpa using e)]
      have e2 : ∀ vs, valueAt (q :: vs) k = valueAt vs k := fun vs => by unfold valueAt; rw [List.find?_cons_of_neg (by simpa [← h1] using e)]
      rw [e1, e2]
      exact ih
def tKGet (td ty : TE) : TE := fun σ H Q => td σ H fun x H1 => ty σ H1 fun y H2 => ∃ a k kvs v, x = .ref a ∧ y = kV k ∧ H2 a = some (.dK kvs) ∧ atK kvs k = some v ∧ Q v H2
section
variable {X : Cx} {o i : Expr} {td ty : TE} {pos : Pos}
theorem pe_kget (ho : PE X o td) (hi : PE X i ty) (hs : ∀ ov iv, subscripted i false ov iv = operate [ov, iv] (getItem ov iv)) : PE X (.Subscript o i pos) (tKGet td ty) := by
  intro pins s σ H Q I h
  refine Subscript_ (thn (ho pins s σ H _ I h) fun u s1 ⟨x, H1, I1, rx, q1⟩ => thn (hi pins s1 σ H1 _ I1 q1) fun iv s2 ⟨y, H2, I2, ry, a, k, kvs, v, ex, ey, e, ev, q2⟩ => ?_)
  subst ex; subst ey
  obtain rfl : u = Value.ref a := rx
  obtain ⟨z, hd, vs, r, dd⟩ := (show ObjOk X.prog X.w H2 s2.heap a (.dK kvs) from I2.hok a _ e)
  have hT := dd.typeIs
  have val := atK_val r k
  rw [ev] at val
  obtain ⟨w', ea, rv⟩ := val
  unfold subscriptTail
  refine wpAny_bind ?_
  rw [getitemInPython_of_ne hT.not_modules]
  refine wpAny_bind (wpAny_specialOf hT PySem.F.slot_dict_getitem.lookup ?_)
  have fin : wpAny (model X.prog X.w) X.A (subscripted i false (.ref a) iv) (fun r s₃ => wpAny (model X.prog X.w) X.A (letTemporaryGo o (.ref a) r >>= fun _ => pure r) (EP X pins σ Q) X.xe s₃) X.xe s2 := by
    rw [hs]
    exact wpAny_operating (wpAny_getItem_of (key_is ry) dd.mapOf ea (wpAny_bind (wpAny_letTemporaryGo (wpAny_pure ⟨v, H2, I2.tok _, rv, q2⟩))))
  first
    | exact wpAny_pure (wpAny_bind fin)
    | exact wpAny_bind (wpAny_pure (wpAny_bind fin))
    | exact wpAny_bind fin
end
theorem stored_all {K : Type} [DecidableEq K] : ∀ {ks acc : List (K × Value)}, ((acc ++ ks).map (·.1)).Nodup → ks.foldl (fun kvs q => stored kvs q.1 q.2) acc = acc ++ ks
  | [], acc, _ => by simp
  | q :: ks, acc, h => by
    have e : stored acc q.1 q.2 = acc ++ [q] := by
      unfold stored
      rw [if_neg]
      intro z
      obtain ⟨p, hp, e⟩ := List.any_eq_true.mp z
      have e := of_decide_eq_true e
      rw [List.map_append, List.nodup_append] at h
      exact h.2.2 _ (List.mem_map.mpr ⟨p, hp, rfl⟩) _ (List.mem_map.mpr ⟨q, List.mem_cons_self .., rfl⟩) e
    rw [List.foldl_cons, e, stored_all (by rw [List.append_assoc]; exact h), List.append_assoc]
    rfl
end L2
namespace L2
open PySem PySem.Spec PyProof.Rows
section
variable {K : PySem.W.Frag} {d : Nat} {α β : Type} [DecidableEq α] [DecidableEq β] {R : Hp → V → α → Prop} {S : Hp → V → β → Prop}
theorem EqOk.up (ok : EqOk K d R) {e : Nat} (h : d ≤ e) : EqOk K e R where
  fn := ok.fn
  eq := fun hK I r r' a b hu => ok.eq hK I r r' a b (by omega)
end
theorem comp2_prd {α γ : Type} {K : PySem.W.Frag} {js : List Nat} {te : TE} {σ : St} {H : Hp} {Fin : Addr → Hp → Prop} {a : Addr} (ws : List V) (cs : List α) (fs sn : α → V) (f : α → γ) (R2 : Hp → V → γ → Prop)
    (mono2 : ∀ H1 H2 v c, TupKeep H1 H2 → R2 H1 v c → R2 H2 v c)
    (hS : SqL K H a ws) (pr : Paired (fun v c => ∃ p, v = .ref p ∧ H p = some (.tup [fs c, sn c])) ws cs)
    (he : ∀ c H', c ∈ cs → Same H H' → ∀ Q2 : VK, (∀ y H4, Same H' H4 → R2 H4 y (f c) → Q2 y H4) → te (blkSt2 js σ (some (fs c)) (some (sn c))) H' Q2)
    (hn : cs.length ≤ sizeLine)
    (hd : ∀ D us H', H D = none → Same H H' → H' D = some (.lst us) → Paired (R2 H') us (cs.map f) → Fin D H') : CompBy2 K js te σ (Itl K a) H Fin := by
  intro D hD
  have hlen : ws.length = cs.length := prd_len pr
  let Pv : Nat → List V → Hp → Prop := fun i ys H' => Same H H' ∧ H' D = some (.lst ys) ∧ Paired (R2 H') ys ((cs.take i).map f)
  refine ⟨fun i m ys H' => m = cs.length - i ∧ i ≤ cs.length ∧ Pv i ys H', ⟨cs.length, by simp, Nat.zero_le _, Same.new hD, upd_same, by rw [List.take_zero]; exact .nil⟩, ?_⟩
  rintro i m ys H' ⟨rfl, hi, sm, hL, ey⟩
  refine ⟨hL, ?_⟩
  have hS' := sm.seq hS
  by_cases hlt : i < cs.length
  · have hc : cs[i]? = some cs[i] := by simp [hlt]
    obtain ⟨v0, hv0, p, rfl, hp⟩ := prd_get pr hc
    refine .inr ⟨⟨_, _, hS', hv0⟩, Pv (i + 1), fun zs H'' p' => ⟨cs.length - (i + 1), by omega, rfl, hlt, p'⟩, fun v H2 y => ?_⟩
    obtain ⟨rfl, hx2⟩ := y
    have ex : v = .ref p := by
      have := hx2 _ hS'
      rw [hv0] at this
      exact (Option.some.inj this).symm
    subst ex
    refine ⟨p, _, _, rfl, SqT.of (sm _ _ hp), he cs[i] _ (List.getElem_mem hlt) sm _ fun y H4 s4 r4 => ?_⟩
    have hL4 : H4 D = some (.lst ys) := s4 _ _ hL
    have tk : TupKeep H4 (upd H4 D (.lst (ys ++ [y]))) := TupKeep.upd fun xs z => by rw [hL4] at z; cases z
    have yl : ys.length = i := by rw [prd_len ey, List.length_map, List.length_take]; omega
    refine ⟨hL4, by omega, (sm.trans s4).upd hD, upd_same, ?_⟩
    rw [List.take_add_one, hc, List.map_append]
    exact prd_append (prd_imp (fun x c r => mono2 _ _ _ _ (s4.tk.trans tk) r) ey) (.cons (mono2 _ _ _ _ tk r4) .nil)
  · have e : i = cs.length := by omega
    subst e
    rw [List.take_length] at ey
    exact .inl ⟨⟨_, hS', by omega⟩, hd D ys H' hD sm hL ey⟩
theorem comp2_int {α : Type} {K : PySem.W.Frag} {js : List Nat} {te : TE} {σ : St} {H : Hp} {Fin : Addr → Hp → Prop} {a : Addr} (ws : List V) (cs : List α) (fs sn : α → V) (f : α → Int)
    (hS : SqL K H a ws) (pr : Paired (fun v c => ∃ p, v = .ref p ∧ H p = some (.tup [fs c, sn c])) ws cs)
    (he : ∀ c H', c ∈ cs → Same H H' → ∀ Q2 : VK, (∀ H4, Same H' H4 → Q2 (.int (f c)) H4) → te (blkSt2 js σ (some (fs c)) (some (sn c))) H' Q2)
    (hn : cs.length ≤ sizeLine)
    (hd : ∀ D H', H D = none → Same H H' → H' D = some (.lst ((cs.map f).map V.int)) → Fin D H') : CompBy2 K js te σ (Itl K a) H Fin :=
  comp2_prd ws cs fs sn f (fun _ v c => v = .int c) (fun _ _ _ _ _ r => r) hS pr (fun c H' hc s Q2 h => he c H' hc s Q2 fun H4 s4 => h _ H4 s4 rfl) hn
    fun D us H' h0 s hL pr2 => hd D H' h0 s (by rw [hL, prd_map pr2])
/-- y = [elt for x, z in iter], the stores exchanged -/
def tSetC2 (K : PySem.W.Frag) (i : Nat) (wi : TI) (js : List Nat) (te : TE) : TS := fun D σ H => wi σ H fun J H1 => CompBy2 K js te σ J H1 fun a H2 => D.nx (σ.set i (some (.ref a))) H2
section
variable {X : Cx} {elt iter : Expr} {x z : Str} {ys : List Str} {js : List Nat} {sc : Scope} {px pz pt pos : Pos} {tk : Nat} {wi : TI} {te : TE}
theorem ps_setC2 {i : Nat} {y : Str} {py spos : Pos} (hN : X.N.Nodup) (hiN : X.N[i]? = some y) (hy : X.env.scope.names.lookup y = some .local) (S : BlkScope2 X.env.scope X.N x z ys js sc) (hc : X.calm = true) (hi : PI X (.Tuple [.Name x px, .Name z pz] tk pt) iter wi)
    (he : ∀ cl C s H ex, PE (X.blk (x :: z :: ys) sc cl C s H ex) elt te)
    (hsw : swapsWith (.ListComp elt [⟨.Tuple [.Name x px, .Name z pz] tk pt, iter, [], 0⟩] sc pos) (some (.Name y py)) spos.line X.env = pure true := by rfl)
    (hs : ∀ v, foldedSetIterable iter X.env v = pure v := by intro _; rfl) : PS X (.Assign [.Name y py] (.ListComp elt [⟨.Tuple [.Name x px, .Name z pz] tk pt, iter, [], 0⟩] sc pos) spos) (tSetC2 X.K i wi js te) := by
  intro pins s σ H D I h
  obtain ⟨cl, ecl, h1, h2⟩ := closure_ok (fun y hy hf => I.ok.has y.1 (S.out y hy hf))
  rw [exec_Assign_Name_used _ _ _ _ hsw]
  refine wpAny_bind (wpAny_standAt (wpAny_bind ?_))
  show wpAny _ X.A (do let _ ← comprehension (.ListComp elt [⟨.Tuple [.Name x px, .Name z pz] tk pt, iter, [], 0⟩] sc pos) sc X.env _ (newList []) false (eval iter X.env) (some (assign (.Name y py) X.env))) _ _ s
  refine wpAny_bind (wpAny_mono (wpAny_comprehension_free (use := some (assign (.Name y py) X.env)) (Q := fun _ s' => SP X pins D .next s') rfl hs ecl S.kind S.loc (thn (hi pins s σ H _ I h) fun v s1 hv => thn hv fun itv s2 h2' => ?_))
    (fun _ s' hq => wpAny_pure (wpAny_pure hq)) fun _ _ e => e)
  obtain ⟨it, fp, tn, J, H2, e, I2, T, st2, f2, q2⟩ := h2'
  subst e
  refine comp_block2 (RR := fun acc C => compPost (model X.prog X.w) X.A X.xe (some (assign (.Name y py) X.env)) (fun _ s' => SP X pins D .next s') acc C) hc I2 S h1 h2 T st2 f2 he q2 ?_
  intro a C oC m s5 H5 I5 F5 ho hns I6 fin
  show wpAny _ X.A (assign (.Name y py) X.env (.ref a)) _ _ s5
  refine wpAny_mono (pg_name (X := X) (i := i) (pos := py) hN hiN (.inl hy) (.inr hy) _ s5 σ H5 (.ref a) (.ref a) (fun σ' H' => σ' = σ.set i (some (.ref a)) ∧ H' = H5) I6 rfl ⟨rfl, rfl⟩) (fun _ s6 ⟨σ6, H6, I7, e6, e7⟩ => ?_) fun _ _ e => e
  subst e6; subst e7
  have hC6 : s6.heap.get? C = some oC := (I7.pin (C, oC) (List.mem_append_right _ (List.mem_append_right _ (by simp)))).1
  refine ⟨m, hns _ hC6, fun h' hs' => ⟨_, H6, ?_, fin⟩⟩
  exact (Inv.unpinned I7).turned (t' := s6.toks) (fun b o hb e => hs'.extBut b o hb e) F5.1 F5.2.1 F5.2.2.2.1 F5.2.2.2.2.1 F5.2.2.2.2.2
end
end L2
namespace STab
open PySem PyProof.Rows
section
variable {prog : Program} {w : World} {A : Around} {R : Result → Shared → Prop} {I : Addr} {fp wr : List Addr} {n : Nat} {P : Nat → Value → Prop} {St : Nat → Heap → Prop}
def Kpt (h0 : Heap) (wr : List Addr) (h : Heap) : Prop := ∀ b o, b ∉ wr → h0.get? b = some o → h.get? b = some o
def CmpAt (prog : Program) (w : World) (A : Around) (s0 : Shared) (wr : List Addr) (P : Nat → Value → Prop) (bt : Nat → Nat → Bool) : Prop :=
  ∀ i j vi vj (h' : Heap) (tk : Nat) (Q : Value → Shared → Prop) (E : Value → Shared → Prop), Kpt s0.heap wr h' → P i vi → P j vj → Q (.bool (bt i j)) { s0 with heap := h', toks := tk } → wpAny (model prog w) A (richCompare .Lt vi vj) Q E { s0 with heap := h', toks := tk }
theorem min_loopH (s0 : Shared) (W : Walks prog w A.in1 I fp wr n P St) (bt : Nat → Nat → Bool) (hcmp : CmpAt prog w A.in1 s0 wr P bt) (S : Addr) (hSf : S ∉ fp) (hS0 : s0.heap.get? S = none) :
    ∀ (k j : Nat) (h : Heap) (tk0 : Nat) (vb : Value) (c : Nat), n - (j + 1) = k → j + 1 ≤ n → St (j + 1) h → Kpt s0.heap wr h → P (argBest bt j) vb →
    h.get? S = some { cls := .type "list", dict := none, data := .seq #[vb, vb] c, slots := #[] } →
    (∀ v h' tk, P (argBest bt (n - 1)) v → Kpt s0.heap wr h' → R (.ok (.ret v)) { s0 with heap := h', toks := tk }) →
    codeAny (model prog w) A (.builtin "min.loop" ⟨[.ref I, .none, .ref S], []⟩) R { s0 with heap := h, toks := tk0 } := by
  have hSw : S ∉ wr := fun h => hSf (W.sub _ h)
  have hname : (toString "min" ++ toString ".loop" : String) = "min.loop" := by decide
  have keepS : ∀ (h : Heap) (g : Obj → Obj), Kpt s0.heap wr h → Kpt s0.heap wr (h.update S g) := fun h g hk b o hb e => by
    have ne : S ≠ b := fun z => by rw [← z, hS0] at e; cases e
    exact (Heap.get?_update_other _ _ ne).trans (hk b o hb e)
  intro k
  induction k with
  | zero =>
    intro j h tk0 vb c hk hj hst hkp hPb hS hR
    have hin : j + 1 = n := by omega
    refine codeAny_builtin F.entry_min_loop ?_
    rw [Around.under_plainId F.plain_min_loop _]
    show wpAny _ A.in1 (seqItems? (.ref S) >>= _) _ _ _
    refine wpAny_bind (wpAny_seqItems hS rfl ?_)
    show wpAny _ A.in1 (tryCatch (pyNext (.ref I)) _ >>= _) _ _ _
    refine wpAny_bind (wpAny_tryCatch (W.done _ _ _ (hin ▸ hst) fun h' tk hk' => ?_))
    have hS' := hk' S _ hSw hS
    show wpAny _ A.in1 (updateSeq S (fun _ => #[]) >>= _) _ _ _
    refine wpAny_bind ?_
    refine wpAny_updateSeq hS' rfl (wpAny_bind (wpAny_letGo (wpAny_pure ?_)))
    exact hR vb _ tk (by rw [← hin]; exact hPb) (keepS _ _ fun b o hb e => hk' b o hb (hkp b o hb e))
  | succ k ih =>
    intro j h tk0 vb c hk hj hst hkp hPb hS hR
    have hlt : j + 1 < n := by omega
    refine codeAny_builtin F.entry_min_loop ?_
    rw [Around.under_plainId F.plain_min_loop _]
    show wpAny _ A.in1 (seqItems? (.ref S) >>= _) _ _ _
    refine wpAny_bind (wpAny_seqItems hS rfl ?_)
    show wpAny _ A.in1 (tryCatch (pyNext (.ref I)) _ >>= _) _ _ _
    refine wpAny_bind (wpAny_tryCatch (W.item (j + 1) _ _ _ hlt hst fun v h' tk hP hst' hk' => ?_))
    have hS' := hk' S _ hSw hS
    have hkp' : Kpt s0.heap wr h' := fun b o hb e => hk' b o hb (hkp b o hb e)
    show wpAny _ A.in1 (tryCatch (holding [v, v] (richCompare .Lt v vb >>= _)) _ >>= _) _ _ _
    refine wpAny_bind (wpAny_tryCatch (wpAny_holding (wpAny_bind (hcmp (j + 1) (argBest bt j) v vb h' tk _ _ hkp' hP hPb ?_))))
    refine wpAny_bind (wpAny_holding (wpAny_truthy_bool ?_))
    refine wpAny_bind (wpAny_letGo (wpAny_pure ?_))
    cases hb : bt (j + 1) (argBest bt j) with
    | true =>
      simp only [if_true]
      refine wpAny_bind ?_
      refine wpAny_updateSeq hS' rfl (wpAny_bind (wpAny_letGo ?_))
      rw [hname]
      refine wpAny_pure ⟨plainId_quiet F.plain_min_loop _, ih (j + 1) _ _ v _ (by omega) hlt (W.frame _ _ _ hst' fun b hbf o e => ?_) (keepS _ _ hkp') (by simp only [argBest, hb, if_true]; exact hP) (Heap.get?_update_self _ hS' rfl) hR⟩
      exact (Heap.get?_update_other _ _ (fun h : S = b => hSf (by rw [h]; exact hbf))).trans e
    | false =>
      simp only [Bool.false_eq_true, if_false]
      refine wpAny_bind (wpAny_letGo ?_)
      rw [hname]
      exact wpAny_pure ⟨plainId_quiet F.plain_min_loop _, ih (j + 1) h' tk vb c (by omega) hlt hst' hkp' (by simp only [argBest, hb, Bool.false_eq_true, if_false]; exact hPb) hS' hR⟩
end
section
variable {prog : Program} {w : World} {A : Around} {E : Value → Shared → Prop} {s : Shared}
theorem call_minH {x : Value} {Q : Value → Shared → Prop}
    (h : wpAny (model prog w) A.in1 (pyIter x) (fun it s₂ => ∃ I fp wr n P St bt, it = .ref I ∧ Walks prog w A.in1 I fp wr n P St ∧ St 0 s₂.heap ∧ (∀ b ∈ fp, b < s₂.heap.objs.size) ∧ 0 < n ∧ CmpAt prog w A.in1 s₂ wr P bt ∧
      ∀ v h' tk, P (argBest bt (n - 1)) v → Kpt s₂.heap wr h' → Q v { s₂ with heap := h', toks := tk }) E s) :
    wpAny (model prog w) A (call (.builtin "min") [x]) Q E s := by
  have hname : (toString "min" ++ toString ".loop" : String) = "min.loop" := by decide
  refine call_function_tree F.kind_min F.plain_min F.entry_min (F.args_min1 _) ?_
  show wpAny _ A.in1 (Builtin.Builtins.bindParams "min" ["key", "default"] 0 ⟨[], []⟩ >>= _) _ _ s
  refine wpAny_bind (wpAny_of_eq (show Builtin.Builtins.bindParams "min" ["key", "default"] 0 ⟨[], []⟩ = pure [none, none] from rfl) ?_)
  refine wpAny_bind (wpAny_pure ?_)
  refine wpAny_bind (wpAny_mono h (fun it s₂ h₂ => ?_) fun _ _ e => e)
  obtain ⟨I, fp, wr, n, P, St, bt, rfl, W, hst, hfp, hn, hcmp, hQ⟩ := h₂
  refine wpAny_bind (wpAny_newObj_type ?_)
  have hSf : s₂.heap.objs.size ∉ fp := fun hm => Nat.lt_irrefl _ (hfp _ hm)
  have hSw : s₂.heap.objs.size ∉ wr := fun h => hSf (W.sub _ h)
  have hS0 : s₂.heap.get? s₂.heap.objs.size = none := by
    cases q : s₂.heap.get? s₂.heap.objs.size with
    | none => rfl
    | some o => exact absurd (Heap.lt_size q) (Nat.lt_irrefl _)
  rw [hname]
  refine wpAny_pure ⟨plainId_quiet F.plain_min_loop _, codeAny_builtin F.entry_min_loop ?_⟩
  rw [Around.under_plainId F.plain_min_loop _]
  have hS := Heap.get?_push_size s₂.heap (o := { cls := .type "list", dict := none, data := .seq #[] 0, slots := #[] }) rfl
  show wpAny _ A.in1 (seqItems? (.ref s₂.heap.objs.size) >>= _) _ _ _
  refine wpAny_bind (wpAny_seqItems hS rfl ?_)
  show wpAny _ A.in1 (tryCatch (pyNext (.ref I)) _ >>= _) _ _ _
  refine wpAny_bind (wpAny_tryCatch (W.item 0 _ _ _ hn (W.frame _ _ _ hst fun b _ o e => Heap.get?_push_of_some _ e) fun v h' tk hP hst' hk' => ?_))
  have hS' := hk' s₂.heap.objs.size _ hSw hS
  show wpAny _ A.in1 (updateSeq s₂.heap.objs.size (fun _ => #[v, v]) >>= _) _ _ _
  refine wpAny_bind ?_
  refine wpAny_updateSeq hS' rfl ?_
  rw [hname]
  refine wpAny_pure ⟨plainId_quiet F.plain_min_loop _, min_loopH s₂ W bt hcmp s₂.heap.objs.size hSf hS0 _ 0 _ _ v _ rfl hn (W.frame _ _ _ hst' fun b hbf o e => ?_) (fun b o hb e => ?_) hP (Heap.get?_update_self _ hS' rfl) hQ⟩
  · exact (Heap.get?_update_other _ _ (fun h : s₂.heap.objs.size = b => hSf (by rw [h]; exact hbf))).trans e
  · have ne : s₂.heap.objs.size ≠ b := fun z => by rw [← z, hS0] at e; cases e
    exact (Heap.get?_update_other _ _ ne).trans (hk' b o hb (Heap.get?_push_of_some _ e))
end
end STab
namespace L2
open PySem PySem.Spec PyProof.Rows
section
open PySem.SeqAt
open PySem.AutoSeq1 (wpAny_loadPart')
open PySem.MeetsSeq PySem.MeetsSeq2 PySem.MeetsSeq3
/-- < of two values answers b -/
def RcLt (A : Around) (s : Shared) (v u : Value) (b : Bool) : Prop := ∀ (prog : Program) (w : World) (E : Value → Shared → Prop) (Q : Value → Shared → Prop), Q (.bool b) s → wpAny (model prog w) A (richCompare .Lt v u) Q E s
/-- a way to read values that < compares as lt does what is read -/
structure LtOk (K : PySem.W.Frag) (d : Nat) {α : Type} (R : Hp → V → α → Prop) (lt : α → α → Bool) : Prop where
  lt : ∀ {X : Cx} {A : Around} {pins : List (Addr × Obj)} {σ : List (Option V)} {H : Hp} {s : Shared} {x y : V} {v u : Value} {a b : α}, X.K = K → Inv X pins σ H s → RelV x v → RelV y u → R H x a → R H y b → A.units + d < cLine → RcLt A s v u (lt a b)
theorem ltok_int {K : PySem.W.Frag} : LtOk K 0 IntR (fun a b => decide (a < b)) where
  lt := by
    rintro X A pins σ H s x y v u a b hK I r r' h k hu prog w E Q q
    cases h
    cases k
    obtain ⟨t, rfl⟩ := r
    obtain ⟨t', rfl⟩ := r'
    exact HT.rcLt_int A s a t b t' prog w E Q q
theorem LtOk.up {K : PySem.W.Frag} {d e : Nat} {α : Type} {R : Hp → V → α → Prop} {lt : α → α → Bool} (ok : LtOk K d R lt) (h : d ≤ e) : LtOk K e R lt where
  lt := fun hK I r r' a b hu => ok.lt hK I r r' a b (by omega)
/-- tuples of ints -/
theorem ltok_ints {K : PySem.W.Frag} : LtOk K 1 (TupOf IntR) HT.lexLt where
  lt := by
    rintro X A pins σ H s x y v u as bs hK I r r' ⟨p, xs, rfl, hp, pa⟩ ⟨p', ys, rfl, hp', pb⟩ hu prog w E Q q
    cases r
    cases r'
    have e1 : xs = as.map V.int := prd_map (g := V.int) pa
    have e2 : ys = bs.map V.int := prd_map (g := V.int) pb
    subst e1 e2
    obtain ⟨its, r1, p1, _⟩ := I.tuple (SqT.of hp)
    obtain ⟨its2, r2, p2, _⟩ := I.tuple (SqT.of hp')
    obtain ⟨⟨cls, dd, data, sl⟩, ho, hc, n, hd⟩ := id p1
    obtain ⟨⟨cls2, dd2, data2, sl2⟩, ho2, hc2, n2, hd2⟩ := id p2
    simp only at hc hd hc2 hd2
    subst hc hd hc2 hd2
    exact richCompare_meets_room (op := .Lt) ⟨_, ho, rfl⟩ ⟨_, ho2, rfl⟩ PySem.F.slot_tuple_lt PySem.F.entry_tuple_lt (PySem.F.args_tuple_lt_2 _ _) (HT.tuple_lt_ints p p' its.toArray its2.toArray n n2 dd dd2 sl sl2 as bs (intsAre_of (by simpa using r1)) (intsAre_of (by simpa using r2)))
      ⟨ho, ho2, show Value.bool _ ≠ Value.notImplemented ∧ _ from ⟨(fun x => nomatch x), q⟩⟩ (by omega)
def lexB : List (Bool × Bool) → Bool
  | [] => false
  | (e, l) :: r => if e = true then lexB r else l
/-- how the items of two tuples compare, from the left -/
inductive Cmp3 (A : Around) (s : Shared) : List Value → List Value → List (Bool × Bool) → Prop
  | nil : Cmp3 A s [] [] []
  | cons {v u : Value} {vs us : List Value} {e l : Bool} {cs : List (Bool × Bool)} : EqAt A s v u e → (e = false → RcLt A s v u l) → Cmp3 A s vs us cs → Cmp3 A s (v :: vs) (u :: us) ((e, l) :: cs)
theorem Cmp3.len {A : Around} {s : Shared} {vs us : List Value} {cs : List (Bool × Bool)} (c : Cmp3 A s vs us cs) : vs.length = us.length := by
  induction c with
  | nil => rfl
  | cons _ _ _ ih => simp [ih]
theorem tuple_ltG (l b : Addr) (items items2 : Array Value) (n n2 : Nat) (dd dd2 : Option Addr) (sl sl2 : Array (Option Value)) (cs : List (Bool × Bool)) :
    Meets (Builtin.«tuple.__lt__» ⟨[.ref l, .ref b], []⟩)
      (fun A R s => s.heap.get? l = some { cls := .type "tuple", dict := dd, data := .seq items n, slots := sl } ∧ s.heap.get? b = some { cls := .type "tuple", dict := dd2, data := .seq items2 n2, slots := sl2 } ∧
        Cmp3 A.in1 s items.toList items2.toList cs ∧ R (.ok (.ret (.bool (lexB cs)))) s) :=
  .of_wp fun prog w A R s h => by
    obtain ⟨hp, g, d, tk, os⟩ := s; obtain ⟨hl, hb, hcm, h⟩ := h
    have f2 := AutoSeq1.sub_tuple_tuple
    have zz : items.size = items2.size := by have := hcm.len; simpa using this
    wp_walk using wpAny_loadPart' hl, wpAny_loadPart' hb, wpAny_forIn_list _ (fun rest b s' => b.1 = none ∧ s' = ⟨hp, g, d, tk, os⟩ ∧ ∃ (vs ws : List Value) (cs' : List (Bool × Bool)), rest = vs.zip ws ∧
      Cmp3 A.in1 ⟨hp, g, d, tk, os⟩ vs ws cs' ∧ R (.ok (.ret (.bool (lexB cs')))) ⟨hp, g, d, tk, os⟩) _
    case turn =>
      rintro ⟨y, x⟩ rest b s' ⟨hb', rfl, vs, ws, cs', hz, hc, hR⟩
      cases hc with
      | nil => cases hz
      | @cons v u vs' us' e l' cs'' he hl' hc' =>
        rw [List.zip_cons_cons] at hz
        injection hz with hyx hrest
        injection hyx with hy hx
        subst hy hx
        refine wpAny_bind (he prog w _ _ ?_)
        cases e with
        | true =>
          have hR : R (.ok (.ret (.bool (lexB cs'')))) ⟨hp, g, d, tk, os⟩ := hR
          wp_walk
          exact ⟨rfl, rfl, _, _, _, hrest, hc', hR⟩
        | false =>
          have hR : R (.ok (.ret (.bool l'))) ⟨hp, g, d, tk, os⟩ := hR
          have hri := fun (E : Value → Shared → Prop) (Q : Value → Shared → Prop) (h : Q (.bool l') ⟨hp, g, d, tk, os⟩) => hl' rfl prog w E Q h
          wp_walk using hri
          exact ⟨_, rfl, by simpa using hR⟩
    case fin =>
      rintro ⟨b1, b2⟩ s' ⟨hb', rfl, vs, ws, cs', hz, hc, hR⟩
      simp only at hb'
      subst hb'
      have hv : lexB cs' = decide (items.size < items2.size) := by
        cases hc with
        | nil => exact (decide_eq_false (by omega)).symm
        | cons _ _ _ => cases hz
      rw [hv] at hR
      wp_walk
      exact ⟨_, rfl, by simpa [Builtin.Tuple.tupleCompareSizes] using hR⟩
    case h =>
      exact ⟨rfl, rfl, items.toList, items2.toList, cs, rfl, hcm, h⟩
/-- tuples of three, each place read in its own way -/
def TripOf {α β γ : Type} (R : Hp → V → α → Prop) (S : Hp → V → β → Prop) (T : Hp → V → γ → Prop) (H : Hp) (v : V) (c : α × β × γ) : Prop := ∃ p x y z, v = .ref p ∧ H p = some (.tup [x, y, z]) ∧ R H x c.1 ∧ S H y c.2.1 ∧ T H z c.2.2
def lt3 {α β γ : Type} [DecidableEq α] [DecidableEq β] [DecidableEq γ] (l1 : α → α → Bool) (l2 : β → β → Bool) (l3 : γ → γ → Bool) (p q : α × β × γ) : Bool :=
  lexB [(decide (p.1 = q.1), l1 p.1 q.1), (decide (p.2.1 = q.2.1), l2 p.2.1 q.2.1), (decide (p.2.2 = q.2.2), l3 p.2.2 q.2.2)]
theorem ltok_trip {K : PySem.W.Frag} {d : Nat} {α β γ : Type} [DecidableEq α] [DecidableEq β] [DecidableEq γ] {R : Hp → V → α → Prop} {S : Hp → V → β → Prop} {T : Hp → V → γ → Prop} {l1 : α → α → Bool} {l2 : β → β → Bool} {l3 : γ → γ → Bool}
    (e1 : EqOk K d R) (e2 : EqOk K d S) (e3 : EqOk K d T) (o1 : LtOk K d R l1) (o2 : LtOk K d S l2) (o3 : LtOk K d T l3) : LtOk K (d + 1) (TripOf R S T) (lt3 l1 l2 l3) where
  lt := by
    rintro X A pins σ H s x y v u ⟨a, b, c⟩ ⟨a', b', c'⟩ hK I r r' ⟨p, x1, y1, z1, rfl, hp, ra, rb, rc⟩ ⟨p', x2, y2, z2, rfl, hp', ra', rb', rc'⟩ hu prog w E Q q
    cases r
    cases r'
    obtain ⟨its, r1, p1, _⟩ := I.tuple (SqT.of hp)
    obtain ⟨its2, r2, p2, _⟩ := I.tuple (SqT.of hp')
    obtain ⟨⟨cls, dd, data, sl⟩, ho, hc, n, hd⟩ := id p1
    obtain ⟨⟨cls2, dd2, data2, sl2⟩, ho2, hc2, n2, hd2⟩ := id p2
    simp only at hc hd hc2 hd2
    subst hc hd hc2 hd2
    have hu' : A.in1.units + d < cLine := by show A.units + 1 + d < cLine; omega
    cases r1 with
    | cons q1 r1 =>
      cases r1 with
      | cons q2 r1 =>
        cases r1 with
        | cons q3 r1 =>
          cases r1
          cases r2 with
          | cons t1 r2 =>
            cases r2 with
            | cons t2 r2 =>
              cases r2 with
              | cons t3 r2 =>
                cases r2
                refine richCompare_meets_room (op := .Lt) ⟨_, ho, rfl⟩ ⟨_, ho2, rfl⟩ PySem.F.slot_tuple_lt PySem.F.entry_tuple_lt (PySem.F.args_tuple_lt_2 _ _) (tuple_ltG p p' _ _ n n2 dd dd2 sl sl2 [(decide (a = a'), l1 a a'), (decide (b = b'), l2 b b'), (decide (c = c'), l3 c c')])
                  ⟨ho, ho2, ?_, show Value.bool _ ≠ Value.notImplemented ∧ _ from ⟨(fun x => nomatch x), q⟩⟩ (by omega)
                exact .cons (e1.eq hK I q1 t1 ra ra' hu') (fun _ => o1.lt hK I q1 t1 ra ra' hu') (.cons (e2.eq hK I q2 t2 rb rb' hu') (fun _ => o2.lt hK I q2 t2 rb rb' hu') (.cons (e3.eq hK I q3 t3 rc rc' hu') (fun _ => o3.lt hK I q3 t3 rc rc' hu') .nil))
end
section
variable {X : Cx} {d : Nat} {α : Type} {R : Hp → V → α → Prop} {lt : α → α → Bool}
/-- min(l), l a list of values that are compared by what they are read as -/
theorem call_minT (hc : X.calm = true) (ok : LtOk X.K d R lt) (hd : d ≤ 60) (hu : X.A.units + 64 < cLine) : CallR X (.builtin "min") (fun xs H Q => ∃ (p : Addr) (vs : List V) (as : List α) (a0 : α), xs = [.ref p] ∧ SqL X.K H p vs ∧ Paired (R H) vs as ∧ as ≠ [] ∧
    ∀ v, vs[argBest (fun i j => lt (as.getD i a0) (as.getD j a0)) (as.length - 1)]? = some v → Q v H) := by
  intro pins s σ H xs us Q I r h
  obtain ⟨p, vs, as, a0, rfl, hq, pr, hne, q⟩ := h
  obtain ⟨u, rfl, ru⟩ := vals1 r
  cases ru
  obtain ⟨its, rv, pl, hz⟩ := I.list hq
  have hp : p < s.heap.objs.size := by
    obtain ⟨o, n, ho, _⟩ := pl
    exact Heap.lt_size ho
  have lv : vs.length = as.length := prd_len pr
  have li := rv.length
  have pos : 0 < as.length := List.length_pos_iff.mpr hne
  refine STab.call_minH (wpAny_pyIter_list pl.isList ?_)
  have calm : X.A.in1.handled = none := I.ok.hd hc
  refine ⟨s.heap.objs.size, _, _, _, _, _, fun i j => lt (as.getD i a0) (as.getD j a0), rfl, Walks.list (A := X.A.in1) calm s.heap.objs.size p (Nat.ne_of_lt hp) its.toArray, ⟨⟨_, Heap.get?_push_size _ rfl, rfl, rfl⟩, pl.isList.at fun o e => Heap.get?_push_of_some _ e⟩, ?_, by rw [List.size_toArray]; omega, ?_, fun v h' tk hP hk => ?_⟩
  · intro b hb
    rw [Heap.size_push]
    rcases List.mem_cons.mp hb with z | z
    · rw [z]; exact Nat.lt_succ_self _
    · rw [List.mem_singleton.mp z]; exact Nat.lt_succ_of_lt hp
  · intro i j vi vj h' tk Q' E' hk hi hj hQ
    have hi : its.toArray[i]? = some vi := hi
    have hj : its.toArray[j]? = some vj := hj
    rw [List.getElem?_toArray] at hi hj
    have i1 : i < vs.length := by have := (List.getElem?_eq_some_iff.mp hi).1; omega
    have j1 : j < vs.length := by have := (List.getElem?_eq_some_iff.mp hj).1; omega
    obtain ⟨ui, hui, rui⟩ := rv.get (List.getElem?_eq_getElem i1)
    obtain ⟨uj, huj, ruj⟩ := rv.get (List.getElem?_eq_getElem j1)
    rw [hi] at hui
    rw [hj] at huj
    cases hui
    cases huj
    obtain ⟨x', hx', rx⟩ := prd_get pr (List.getElem?_eq_getElem (by omega : i < as.length))
    obtain ⟨y', hy', ry⟩ := prd_get pr (List.getElem?_eq_getElem (by omega : j < as.length))
    rw [List.getElem?_eq_getElem i1] at hx'
    rw [List.getElem?_eq_getElem j1] at hy'
    cases hx'
    cases hy'
    have I2 : Inv X pins σ H { s with heap := h', toks := tk } := I.kept (t' := tk) fun b o e => hk b o (fun z => by
      have z : b = s.heap.objs.size := by simpa using z
      have := Heap.lt_size e
      rw [z] at this
      exact absurd this (Nat.lt_irrefl _)) (Heap.get?_push_of_some _ e)
    have ei : as.getD i a0 = as[i] := by rw [List.getD_eq_getElem?_getD, List.getElem?_eq_getElem (by omega)]; rfl
    have ej : as.getD j a0 = as[j] := by rw [List.getD_eq_getElem?_getD, List.getElem?_eq_getElem (by omega)]; rfl
    have := ok.lt (A := X.A.in1) rfl I2 rui ruj rx ry (by show X.A.units + 1 + d < cLine; omega) X.prog X.w E' Q'
    have hQ : Q' (.bool (lt (as.getD i a0) (as.getD j a0))) { s with heap := h', toks := tk } := hQ
    rw [ei, ej] at hQ
    exact this hQ
  · have hP : its.toArray[argBest (fun i j => lt (as.getD i a0) (as.getD j a0)) (its.toArray.size - 1)]? = some v := hP
    have esz : its.toArray.size - 1 = as.length - 1 := by rw [List.size_toArray]; omega
    rw [List.getElem?_toArray, esz] at hP
    have k1 : argBest (fun i j => lt (as.getD i a0) (as.getD j a0)) (as.length - 1) < vs.length := by have := (List.getElem?_eq_some_iff.mp hP).1; omega
    obtain ⟨u, hu', ru⟩ := rv.get (List.getElem?_eq_getElem k1)
    rw [hP] at hu'
    cases hu'
    refine ⟨vs[_], H, I.kept (t' := tk) fun b o e => hk b o (fun z => ?_) (Heap.get?_push_of_some _ e), ru, q _ (List.getElem?_eq_getElem k1)⟩
    have z : b = s.heap.objs.size := by simpa using z
    have := Heap.lt_size e
    rw [z] at this
    exact absurd this (Nat.lt_irrefl _)
end
/-- the best one is not after any other -/
theorem best_le {α : Type} {lt : α → α → Bool} (ir : ∀ a, lt a a = false) (tr : ∀ a b c, lt a b = true → lt b c = true → lt a c = true) (f : Nat → α) : ∀ (k j : Nat), j ≤ k → lt (f j) (f (argBest (fun i j => lt (f i) (f j)) k)) = false
  | 0, j, h => by
    have : j = 0 := by omega
    subst this
    exact ir _
  | k + 1, j, h => by
    have ih := best_le ir tr f k
    have e : argBest (fun i j => lt (f i) (f j)) (k + 1) = if lt (f (k + 1)) (f (argBest (fun i j => lt (f i) (f j)) k)) then k + 1 else argBest (fun i j => lt (f i) (f j)) k := rfl
    rw [e]
    cases hb : lt (f (k + 1)) (f (argBest (fun i j => lt (f i) (f j)) k)) with
    | true =>
      rw [if_pos rfl]
      by_cases hj : j = k + 1
      · rw [hj]; exact ir _
      · cases hq : lt (f j) (f (k + 1)) with
        | false => rfl
        | true =>
          have := tr _ _ _ hq hb
          rw [ih j (by omega)] at this
          cases this
    | false =>
      rw [if_neg Bool.false_ne_true]
      by_cases hj : j = k + 1
      · rw [hj]; exact hb
      · exact ih j (by omega)
theorem best_lt (bt : Nat → Nat → Bool) : ∀ k, argBest bt k ≤ k
  | 0 => Nat.le_refl _
  | k + 1 => by
    show (if bt (k + 1) (argBest bt k) then k + 1 else argBest bt k) ≤ k + 1
    have := best_lt bt k
    split <;> omega
end L2
namespace L2
open PySem PySem.Spec PyProof.Rows
/-- what a call that raised leaves behind is what the context wants of an exception -/
def GoesOn (X : Cx) (E : XK) : Prop := ∀ pins σ H1 s1 e s', Inv X pins σ H1 s1 → CXE X.prog X.w X.stack H1 s1 E e s' → X.xe e s'
/-- f(..), f may raise, and what it raises goes on -/
def tCallP (E : XK) (sp : Sp) (t : TA) : TE := fun σ H Q => t σ H fun vs H1 => sp vs H1 Q E
theorem pe_callP {X : Cx} {E : XK} {k : Nat} {x : Str} {ps : List Str} {sp : Sp} {p pos : Pos} {e : Expr} {es : List Expr} {t : TA} (C : HasX X.prog X.w X.K X.mg X.base k x ps sp) (hr : Room k X.A) (hg : Gl X x) (ha : PA X (e :: es) t) (hp : GoesOn X E)
    (hdb : (x == ("__debug__" : Str)) = false := by decide) (he : starEach (e :: es) X.env = (false, eval e X.env) :: starEach es X.env := by rfl) (hpl : (backTo pos (starEach es X.env)).any (·.1) = false := by rfl) : PE X (.Call (.Name x p) (e :: es) [] pos) (tCallP E sp t) :=
  fun pins s σ H Q I h => run_callX (W := X.xe) C hr hg ha I h (fun H1 s1 e' s' I1 cx => hp pins σ H1 s1 e' s' I1 cx) hdb he hpl
/-- what is wanted of an exception that leaves a def -/
abbrev LeavesBy (X : Cx) (E : XK) : Prop :=
  ∀ e s', wpAny (model X.prog X.w) X.A (leaving X.env e) (fun _ s'' => CXE X.prog X.w X.outer X.H₀ X.s₀ E e s'') (fun e' s'' => CXE X.prog X.w X.outer X.H₀ X.s₀ E e' s'') s' → X.xe e s'
theorem goes_fn {X : Cx} {E : XK} (hex : X.ex = []) (hstk : X.stack = X.env :: X.outer ∧ X.env.frame = some X.env.locals) (hxe : LeavesBy X E) : GoesOn X E := by
  intro pins σ H1 s1 e s' I1 cx
  obtain ⟨a, T, cls, H', ee, I2, ha0, hT0, na, nT, fl, hE⟩ := I1.behind cx
  subst ee
  exact hxe _ _ (leave_next I2 hex hstk fl ha0 hT0 (I1.new0 hex na) (I1.new0 hex nT) hE)

end L2
namespace L2
open PySem PySem.Spec PyProof.Rows
section
variable {X : Cx} {es : List Expr} {t : TA} {pos : Pos}
def tMo (t : TA) : TA := fun σ H K => ∃ K', t σ H K' ∧ ∀ xs H1, K' xs H1 → K xs H1
theorem pa_mo (h : PA X es t) : PA X es (tMo t) := fun p pins s σ H K I ⟨K', hk, im⟩ => thn (h p pins s σ H K' I hk) fun us s1 ⟨xs, H1, I1, r, q⟩ => ⟨xs, H1, I1, r, im _ _ q⟩
def tTupG (t : TA) : TE := fun σ H Q => t σ H fun xs H1 => xs.length ≤ sizeLine ∧ ∀ p H2, Same H1 H2 → H2 p = some (.tup xs) → Q (.ref p) H2
theorem pe_tupG {x1} (h : PA X es t) : PE X (.Tuple es x1 pos) (tTupG t) := fun pins s σ H Q I hq => pe_tup (pa_mo h) pins s σ H Q I ⟨_, hq, fun xs H1 ⟨z, q⟩ => ⟨z, fun p p0 => q p _ (Same.new p0) upd_same⟩⟩
def tLstG (t : TA) : TE := fun σ H Q => t σ H fun xs H1 => xs.length ≤ sizeLine ∧ ∀ p H2, Same H1 H2 → H1 p = none → H2 p = some (.lst xs) → Q (.ref p) H2
theorem pe_lstG (h : PA X es t) : PE X (.List es pos) (tLstG t) := fun pins s σ H Q I hq => pe_lst (pa_mo h) pins s σ H Q I ⟨_, hq, fun xs H1 ⟨z, q⟩ => ⟨z, fun p p0 => q p _ (Same.new p0) p0 upd_same⟩⟩
end
end L2
namespace STab
open PySem PyProof.Rows
section
variable {prog : Program} {w : World} {A : Around} {E : Value → Shared → Prop} {s : Shared}
/-- the next one of a tuple, or the end, by what stands there -/
theorem tup_draw {it t : Addr} {i : Nat} {its : Array Value} {Q : Value → Shared → Prop} (hit : s.heap.IsTupleIter it t i) (ht : s.heap.IsTuple t its)
    (go : ∀ x, its[i]? = some x → ∀ h', h'.IsTupleIter it t (i + 1) → Heap.SameBut it s.heap h' → Q x { s with heap := h' })
    (no : its[i]? = none → A.handled = none ∧ ∀ h' e, Heap.ExtBut it s.heap h' → (∃ o, h'.get? e = some o ∧ o.cls = .type "StopIteration") → E (.ref e) { s with heap := h' }) :
    wpAny (model prog w) A (Builtin.SmallTypes.nextOf (.ref it)) Q E s := by
  have ty := hit.typeIs
  obtain ⟨o, e1, e2, e3⟩ := hit
  obtain ⟨u, f1, f2, n, f3⟩ := ht
  unfold Builtin.SmallTypes.nextOf
  refine wpAny_bind (wpAny_callSpecial?_slot (name := Str.ofString "__next__") ty F.slot_tuple_iterator_next (wpAny_call_entry F.slot_tuple_iterator_next ty F.entry_tuple_iterator_next ?_ (F.args_tuple_iterator_next_1 _)))
  refine wpAny_bind (m := field (.ref it) 0) (wpAny_field e1 e3 (x := .ref t) rfl ?_)
  have nn : ¬ ((Value.ref t == Value.none) = true) := Bool.false_ne_true
  show wpAny _ _ (if (Value.ref t == Value.none) = true then _ else _) _ _ s
  rw [if_neg nn]
  refine wpAny_bind (m := field (.ref it) 1) (wpAny_field e1 e3 (x := .int i 0) rfl ?_)
  refine wpAny_bind (m := seqItems? (.ref t)) (wpAny_seqItems f1 f3 ?_)
  cases hx : its[i]? with
  | some x =>
    simp only [Int.toNat_natCast, hx]
    refine wpAny_bind (wpAny_setField e1 e3 (by simp) (wpAny_pure ⟨x, rfl, wpAny_pure (go x hx _ ⟨_, Heap.get?_update_self _ e1 (Obj.isFreed_of_fields (Obj.data_mapFields e3 _)), ?_, ?_⟩ (Heap.SameBut.update ..))⟩))
    · rw [Obj.cls_mapFields]; exact e2
    · rw [Obj.data_mapFields e3]; simp [rawInt]
  | none =>
    obtain ⟨hh, no⟩ := no hx
    simp only [Int.toNat_natCast, hx]
    refine wpAny_bind (wpAny_rule (wpAny_bind (wpAny_setField e1 e3 (by simp) ?_)))
    refine wpAny_bind (m := newExc (.type "StopIteration") []) ?_
    simp only [newExc, newTuple, raiseNew]
    refine wpAny_bind (wpAny_newObj_type (wpAny_bind (m := firstArgMember _ _) (wpAny_of_eq (a := Value.none) (by first | rfl | (simp only [firstArgMember]; rfl)) (wpAny_newObj_type ?_ (by size_fits)))) (by size_fits))
    refine wpAny_bind (wpAny_handled ?_)
    first | rw [show A.in1.handled = none from hh] | rw [hh]
    refine wpAny_bind (wpAny_pure (wpAny_throw (no _ _ (Heap.ExtBut.push (Heap.ExtBut.push (Heap.SameBut.update ..).extBut _) _) ⟨_, Heap.get?_push_size _ rfl, rfl⟩)))
end
end STab
namespace STab
open PySem PyProof.Rows
section
variable {prog : Program} {w : World} {A : Around} {E : Value → Shared → Prop} {s : Shared}
/-- the first draw of a zip of two tuples, where both have one -/
theorem zipT_first {z TI TO i1 i2 l1 l2 : Addr} {k1 k2 : Nat} {xs ys : Array Value} {x y a b : Value} {Q : Option Value → Shared → Prop} (D : ZipApart z TI TO i1 i2 l1 l2)
    (hz : IsZip s.heap z TI TO .none) (hTI : IsPair s.heap TI (.ref i1) (.ref i2)) (hTO : IsPair s.heap TO a b)
    (h1 : s.heap.IsTupleIter i1 l1 k1) (h2 : s.heap.IsTupleIter i2 l2 k2) (hl1 : s.heap.IsTuple l1 xs) (hl2 : s.heap.IsTuple l2 ys) (hx : xs[k1]? = some x) (hy : ys[k2]? = some y)
    (hQ : ∀ h', ZipOut h' z TI TO s.heap.objs.size false → IsPair h' TO x y → h'.IsTupleIter i1 l1 (k1 + 1) → h'.IsTupleIter i2 l2 (k2 + 1) → IsPair h' s.heap.objs.size x y →
      (∀ c o, c ≠ z → c ≠ TO → c ≠ i1 → c ≠ i2 → s.heap.get? c = some o → h'.get? c = some o) → Q (some (.ref s.heap.objs.size)) { s with heap := h' }) :
    wpAny (model prog w) A (pyNext (.ref z)) Q E s := by
  have ty : s.TypeIs (.ref z) "zip" := ⟨_, hz, rfl⟩
  unfold pyNext
  refine wpAny_bind (wpAny_attempt (wpAny_callSpecial?_slot (name := Str.ofString "__next__") ty F.slot_zip_next (wpAny_call_entry F.slot_zip_next ty F.entry_zip_next ?_ (F.args_zip_next_1 _))))
  refine wpAny_bind (m := field (.ref z) 2) (wpAny_field hz rfl (x := .bool false) rfl ?_)
  refine wpAny_bind (m := field (.ref z) 3) (wpAny_field hz rfl (x := .ref TI) rfl ?_)
  refine wpAny_bind (wpAny_seqItems hTI rfl ?_)
  refine wpAny_bind (m := Builtin.SmallTypes.ownedTupleIsFree (.ref z)) ?_
  unfold Builtin.SmallTypes.ownedTupleIsFree
  refine wpAny_bind (wpAny_field hz rfl (x := .none) rfl (wpAny_pure ?_))
  simp only [if_true]
  refine wpAny_bind (wpAny_rule (wpAny_bind (wpAny_field hz rfl (x := .ref TO) rfl (wpAny_bind (wpAny_setField_rec hz (by simp) fun g1 w1 b1 => ?_)))))
  have w1 : IsZip g1 z TI TO .ellipsis := w1
  refine wpAny_bind ?_
  simp only [List.zipIdx_cons, List.zipIdx_nil, List.forIn_cons, List.forIn_nil]
  refine wpAny_bind (wpAny_bind (wpAny_onRaise ?_))
  refine wpAny_bind (m := Builtin.SmallTypes.nextOf (.ref i1)) (tup_draw (h1.extBut b1.extBut D.i1z) (hl1.extBut b1.extBut D.l1z) (fun x' ex g2 j1 b2 => wpAny_pure ?_) fun no => by rw [hx] at no; cases no)
  obtain rfl : x = x' := by rw [hx] at ex; exact Option.some.inj ex
  have t2 : IsPair g2 TO a b := b2.extBut _ _ D.TOi1 (b1.extBut _ _ D.TOz hTO)
  refine wpAny_bind (wpAny_seqItems t2 rfl (wpAny_bind (wpAny_updateSeq_pair t2 fun g3 t3 b3 => wpAny_bind (wpAny_letGo (wpAny_pure ?_)))))
  have t3 : IsPair g3 TO x b := t3
  refine wpAny_bind (wpAny_bind (wpAny_onRaise ?_))
  have to3 : ∀ c o, c ≠ z → c ≠ TO → c ≠ i1 → s.heap.get? c = some o → g3.get? c = some o := fun c o c1 c2 c3 e => b3.extBut _ _ c2 (b2.extBut _ _ c3 (b1.extBut _ _ c1 e))
  refine wpAny_bind (m := Builtin.SmallTypes.nextOf (.ref i2)) (tup_draw (h2.at fun o e => to3 _ o D.i2z D.TOi2.symm D.i12.symm e) (hl2.at fun o e => to3 _ o D.l2z D.l2TO D.l2i1 e) (fun y' ey g4 j2 b4 => wpAny_pure ?_) fun no => by rw [hy] at no; cases no)
  obtain rfl : y = y' := by rw [hy] at ey; exact Option.some.inj ey
  have t4 : IsPair g4 TO x b := b4.extBut _ _ D.TOi2 t3
  refine wpAny_bind (wpAny_seqItems t4 rfl (wpAny_bind (wpAny_updateSeq_pair t4 fun g5 t5 b5 => wpAny_bind (wpAny_letGo (wpAny_pure (wpAny_pure ?_))))))
  have t5 : IsPair g5 TO x y := t5
  refine wpAny_bind (wpAny_seqItems t5 rfl (wpAny_bind (wpAny_newTuple ?_)))
  have sz : g5.objs.size = s.heap.objs.size := by rw [b5.1, b4.1, b3.1, b2.1, b1.1]
  have w5 : IsZip g5 z TI TO .ellipsis := b5.extBut _ _ D.TOz.symm (b4.extBut _ _ D.i2z.symm (b3.extBut _ _ D.TOz.symm (b2.extBut _ _ D.i1z.symm w1)))
  have to5 : ∀ c o, c ≠ z → c ≠ TO → c ≠ i1 → c ≠ i2 → s.heap.get? c = some o → g5.get? c = some o := fun c o c1 c2 c3 c4 e => b5.extBut _ _ c2 (b4.extBut _ _ c4 (to3 c o c1 c2 c3 e))
  have j15 : g5.IsTupleIter i1 l1 (k1 + 1) := ((j1.extBut b3.extBut D.TOi1.symm).extBut b4.extBut D.i12).extBut b5.extBut D.TOi1.symm
  have j25 : g5.IsTupleIter i2 l2 (k2 + 1) := j2.extBut b5.extBut D.TOi2.symm
  have lz : z < g5.objs.size := Heap.lt_size w5
  refine wpAny_bind (m := Builtin.SmallTypes.ownedTupleHandOut (.ref z) (.ref g5.objs.size)) ?_
  unfold Builtin.SmallTypes.ownedTupleHandOut
  have w6 : IsZip (g5.push { cls := .type "tuple", data := .seq #[x, y] }) z TI TO .ellipsis := Heap.get?_push_of_some _ w5
  refine wpAny_bind (wpAny_setField_rec w6 (by simp) fun g7 w7 b7 => ?_)
  have w7 : IsZip g7 z TI TO (rawInt g5.objs.size) := w7
  refine wpAny_setField_rec w7 (by simp) fun g8 w8 b8 => ?_
  have w8 : ZipOut g8 z TI TO g5.objs.size false := w8
  have up : ∀ c o, c ≠ z → g5.get? c = some o → g8.get? c = some o := fun c o c1 e => b8.extBut _ _ c1 (b7.extBut _ _ c1 (Heap.get?_push_of_some _ e))
  have t8 : IsPair g8 g5.objs.size x y := b8.extBut _ _ (Nat.ne_of_gt lz) (b7.extBut _ _ (Nat.ne_of_gt lz) (Heap.get?_push_size _ rfl))
  rw [sz] at w8 t8
  refine wpAny_pure ⟨_, rfl, wpAny_pure ?_⟩
  show Q (some (.ref g5.objs.size)) _
  rw [sz]
  exact hQ g8 w8 (up _ _ D.TOz t5) (j15.at fun o e => up _ o D.i1z e) (j25.at fun o e => up _ o D.i2z e) t8 fun c o c1 c2 c3 c4 e => up c o c1 (to5 c o c1 c2 c3 c4 e)
/-- a zip of two empty tuples is at its end at once -/
theorem zipT_none {z TI TO i1 i2 l1 l2 : Addr} {k1 : Nat} {xs : Array Value} {a b : Value} {Q : Option Value → Shared → Prop} (hh : A.handled = none) (D : ZipApart z TI TO i1 i2 l1 l2)
    (hz : IsZip s.heap z TI TO .none) (hTI : IsPair s.heap TI (.ref i1) (.ref i2)) (hTO : IsPair s.heap TO a b)
    (h1 : s.heap.IsTupleIter i1 l1 k1) (hl1 : s.heap.IsTuple l1 xs) (hx : xs[k1]? = none)
    (hQ : ∀ h', (∀ c o, c ≠ z → c ≠ i1 → s.heap.get? c = some o → h'.get? c = some o) → Q none { s with heap := h' }) :
    wpAny (model prog w) A (pyNext (.ref z)) Q E s := by
  have ty : s.TypeIs (.ref z) "zip" := ⟨_, hz, rfl⟩
  unfold pyNext
  refine wpAny_bind (wpAny_attempt (wpAny_callSpecial?_slot (name := Str.ofString "__next__") ty F.slot_zip_next (wpAny_call_entry F.slot_zip_next ty F.entry_zip_next ?_ (F.args_zip_next_1 _))))
  refine wpAny_bind (m := field (.ref z) 2) (wpAny_field hz rfl (x := .bool false) rfl ?_)
  refine wpAny_bind (m := field (.ref z) 3) (wpAny_field hz rfl (x := .ref TI) rfl ?_)
  refine wpAny_bind (wpAny_seqItems hTI rfl ?_)
  refine wpAny_bind (m := Builtin.SmallTypes.ownedTupleIsFree (.ref z)) ?_
  unfold Builtin.SmallTypes.ownedTupleIsFree
  refine wpAny_bind (wpAny_field hz rfl (x := .none) rfl (wpAny_pure ?_))
  simp only [if_true]
  refine wpAny_bind (wpAny_rule (wpAny_bind (wpAny_field hz rfl (x := .ref TO) rfl (wpAny_bind (wpAny_setField_rec hz (by simp) fun g1 w1 b1 => ?_)))))
  have w1 : IsZip g1 z TI TO .ellipsis := w1
  refine wpAny_bind ?_
  simp only [List.zipIdx_cons, List.zipIdx_nil, List.forIn_cons, List.forIn_nil]
  refine wpAny_bind (wpAny_bind (wpAny_onRaise ?_))
  refine wpAny_bind (m := Builtin.SmallTypes.nextOf (.ref i1)) (tup_draw (h1.extBut b1.extBut D.i1z) (hl1.extBut b1.extBut D.l1z) (fun x' ex => by rw [hx] at ex; cases ex) fun _ => ⟨hh, fun g2 e b2 he => ?_⟩)
  obtain ⟨oe, e1, e2⟩ := he
  have w2 : IsZip g2 z TI TO .ellipsis := b2 _ _ D.i1z.symm w1
  have ez : e ≠ z := fun q => by subst q; rw [w2] at e1; cases e1; simp at e2
  refine wpAny_setField_rec w2 (by simp) fun g3 _ b3 => ?_
  refine wpAny_bind (wpAny_isInstance (T := "StopIteration") (b := true) ⟨oe, b3.extBut _ _ ez e1, e2⟩ isSubtype_stop ?_)
  exact wpAny_pure (hQ _ fun c o c1 c2 q => b3.extBut _ _ c1 (b2 _ _ c2 (b1.extBut _ _ c1 q)))
end
end STab
namespace STab
open PySem PyProof.Rows
abbrev tupIt (l : Addr) : Obj := { cls := .type "tuple_iterator", data := .fields #[.ref l, .int 0 0] }
abbrev twoOf (a b : Value) : Obj := { cls := .type "tuple", data := .seq #[a, b] }
abbrev zipOf (n : Nat) : Obj := { cls := .type "zip", data := .fields #[.none, .bool false, .bool false, .ref (n + 2), .ref (n + 3)] }
abbrev zipsT (h : Heap) (l1 l2 : Addr) : Heap := ((((h.push (tupIt l1)).push (tupIt l2)).push (twoOf (.ref h.objs.size) (.ref (h.objs.size + 1)))).push (twoOf .none .none)).push (zipOf h.objs.size)
theorem meets_zipT (l1 l2 : Addr) (xs ys : Array Value) :
    Meets (Builtin.«zip.__new__» ⟨[.type "zip", .ref l1, .ref l2], []⟩) (fun _ R s => s.heap.IsTuple l1 xs ∧ s.heap.IsTuple l2 ys ∧ R (.ok (.ret (.ref (s.heap.objs.size + 4)))) { s with heap := zipsT s.heap l1 l2 }) :=
  .of_wp fun prog w A R s h => by
    obtain ⟨hp, g, d, tk, os⟩ := s
    obtain ⟨a1, a2, h⟩ := h
    have sub := sub_zip
    have b1 : Heap.IsTuple (Shared.heap ⟨hp, g, d, tk, os⟩) l1 xs := a1
    have b2 : Heap.IsTuple (Shared.heap ⟨hp.push { cls := .type "tuple_iterator", data := .fields #[.ref l1, .int 0 0] }, g, d, tk, os⟩) l2 ys := Heap.IsTuple.push a2 _
    wp_walk using wpAny_pyIter_tuple b1, wpAny_pyIter_tuple b2
    refine ⟨_, rfl, ?_⟩
    have h : R (.ok (.ret (.ref (hp.objs.size + 4)))) ⟨zipsT hp l1 l2, g, d, tk, os⟩ := h
    simp only [Heap.size_push, Nat.add_assoc, Nat.reduceAdd]
    exact h
section
variable {prog : Program} {w : World} {A : Around} {E : Value → Shared → Prop} {s : Shared}
/-- zip(t, u) of two tuples -/
theorem call_zipT {l1 l2 : Addr} {xs ys : Array Value} {Q : Value → Shared → Prop} (hl1 : s.heap.IsTuple l1 xs) (hl2 : s.heap.IsTuple l2 ys)
    (h : ∀ h', IsZip h' (s.heap.objs.size + 4) (s.heap.objs.size + 2) (s.heap.objs.size + 3) .none → IsPair h' (s.heap.objs.size + 2) (.ref s.heap.objs.size) (.ref (s.heap.objs.size + 1)) →
      IsPair h' (s.heap.objs.size + 3) .none .none → h'.IsTupleIter s.heap.objs.size l1 0 → h'.IsTupleIter (s.heap.objs.size + 1) l2 0 → h'.objs.size = s.heap.objs.size + 5 →
      (∀ c o, s.heap.get? c = some o → h'.get? c = some o) → Q (.ref (s.heap.objs.size + 4)) { s with heap := h' }) :
    wpAny (model prog w) A (call (.type "zip") [.ref l1, .ref l2]) Q E s := by
  refine callType_new F.called_zip (by decide) (F.typeCall_zip_2 _ _) (F.newCall_zip_2 _ _) (fun obj => F.args_object_init_3 obj _ _) F.entry_zip_new (meets_zipT l1 l2 xs ys) ⟨hl1, hl2, ?_⟩
  have up : ∀ {g : Heap} {c : Addr} {o : Obj} (o' : Obj), g.get? c = some o → (g.push o').get? c = some o := fun o' e => Heap.get?_push_of_some _ e
  have z1 : (s.heap.push (tupIt l1)).objs.size = s.heap.objs.size + 1 := Heap.size_push ..
  have z2 : ((s.heap.push (tupIt l1)).push (tupIt l2)).objs.size = s.heap.objs.size + 2 := by rw [Heap.size_push, z1]
  have z3 : (((s.heap.push (tupIt l1)).push (tupIt l2)).push (twoOf (.ref s.heap.objs.size) (.ref (s.heap.objs.size + 1)))).objs.size = s.heap.objs.size + 3 := by rw [Heap.size_push, z2]
  have z4 : ((((s.heap.push (tupIt l1)).push (tupIt l2)).push (twoOf (.ref s.heap.objs.size) (.ref (s.heap.objs.size + 1)))).push (twoOf .none .none)).objs.size = s.heap.objs.size + 4 := by rw [Heap.size_push, z3]
  have z5 : (zipsT s.heap l1 l2).objs.size = s.heap.objs.size + 5 := by rw [Heap.size_push, z4]
  have g1 : (s.heap.push (tupIt l1)).get? s.heap.objs.size = some (tupIt l1) := Heap.get?_push_size _ rfl
  have g2 : ((s.heap.push (tupIt l1)).push (tupIt l2)).get? (s.heap.objs.size + 1) = some (tupIt l2) := by rw [← z1]; exact Heap.get?_push_size _ rfl
  have g3 : (((s.heap.push (tupIt l1)).push (tupIt l2)).push (twoOf (.ref s.heap.objs.size) (.ref (s.heap.objs.size + 1)))).get? (s.heap.objs.size + 2) = some (twoOf (.ref s.heap.objs.size) (.ref (s.heap.objs.size + 1))) := by rw [← z2]; exact Heap.get?_push_size _ rfl
  have g4 : ((((s.heap.push (tupIt l1)).push (tupIt l2)).push (twoOf (.ref s.heap.objs.size) (.ref (s.heap.objs.size + 1)))).push (twoOf .none .none)).get? (s.heap.objs.size + 3) = some (twoOf .none .none) := by rw [← z3]; exact Heap.get?_push_size _ rfl
  have g5 : (zipsT s.heap l1 l2).get? (s.heap.objs.size + 4) = some (zipOf s.heap.objs.size) := by rw [← z4]; exact Heap.get?_push_size _ rfl
  exact ⟨⟨_, g5, rfl⟩, h _ g5 (up _ (up _ g3)) (up _ g4) ⟨_, up _ (up _ (up _ (up _ g1))), rfl, rfl⟩ ⟨_, up _ (up _ (up _ g2)), rfl, rfl⟩ z5 fun c o e => up _ (up _ (up _ (up _ (up _ e))))⟩
end
end STab
namespace STab
open PySem PyProof.Rows
section
variable {prog : Program} {w : World} {A : Around} {E : Value → Shared → Prop} {s : Shared}
/-- the draw of a pair while the own tuple is held -/
theorem zipT_item2 {z TI TO T i1 i2 l1 l2 : Addr} {bb : Bool} {k1 k2 : Nat} {xs ys : Array Value} {x y : Value} {oT : Obj} {Q : Option Value → Shared → Prop} (D : ZipApart z TI TO i1 i2 l1 l2)
    (hz : ZipOut s.heap z TI TO T bb) (hT : s.heap.get? T = some oT) (hTI : IsPair s.heap TI (.ref i1) (.ref i2))
    (h1 : s.heap.IsTupleIter i1 l1 k1) (h2 : s.heap.IsTupleIter i2 l2 k2) (hl1 : s.heap.IsTuple l1 xs) (hl2 : s.heap.IsTuple l2 ys) (hx : xs[k1]? = some x) (hy : ys[k2]? = some y)
    (hQ : ∀ h', ZipOut h' z TI TO T true → h'.IsTupleIter i1 l1 (k1 + 1) → h'.IsTupleIter i2 l2 (k2 + 1) → IsPair h' s.heap.objs.size x y →
      (∀ c o, c ≠ z → c ≠ i1 → c ≠ i2 → s.heap.get? c = some o → h'.get? c = some o) → Q (some (.ref s.heap.objs.size)) { s with heap := h' }) :
    wpAny (model prog w) A (pyNext (.ref z)) Q E s := by
  have ty : s.TypeIs (.ref z) "zip" := ⟨_, hz, rfl⟩
  unfold pyNext
  refine wpAny_bind (wpAny_attempt (wpAny_callSpecial?_slot (name := Str.ofString "__next__") ty F.slot_zip_next (wpAny_call_entry F.slot_zip_next ty F.entry_zip_next ?_ (F.args_zip_next_1 _))))
  show wpAny _ _ (field (.ref z) 2 >>= _) _ _ _
  refine wpAny_bind (wpAny_field hz rfl (x := .bool false) rfl ?_)
  show wpAny _ _ (field (.ref z) 3 >>= _) _ _ _
  refine wpAny_bind (wpAny_field hz rfl (x := .ref TI) rfl ?_)
  refine wpAny_bind (wpAny_seqItems hTI rfl ?_)
  show wpAny _ _ (Builtin.SmallTypes.ownedTupleIsFree (.ref z) >>= _) _ _ _
  refine wpAny_bind (zip_busy hz hT fun g1 hz1 sb1 => ?_)
  simp only [Bool.false_eq_true, if_false]
  refine wpAny_bind ?_
  have k1' := h1.extBut sb1.extBut D.i1z
  have l1' := hl1.extBut sb1.extBut D.l1z
  rw [← Array.forIn_toList]
  simp only [List.forIn_cons, List.forIn_nil]
  refine wpAny_bind (wpAny_bind (wpAny_holding ?_))
  show wpAny _ _ (Builtin.SmallTypes.nextOf (.ref i1) >>= _) _ _ _
  refine wpAny_bind (tup_draw k1' l1' (fun x' ex g2 j1 sb2 => wpAny_pure (wpAny_pure ?_)) fun no => by rw [hx] at no; cases no)
  obtain rfl : x = x' := by rw [hx] at ex; exact Option.some.inj ex
  refine wpAny_bind (wpAny_bind (wpAny_holding ?_))
  show wpAny _ _ (Builtin.SmallTypes.nextOf (.ref i2) >>= _) _ _ _
  refine wpAny_bind (tup_draw ((h2.extBut sb1.extBut D.i2z).extBut sb2.extBut D.i12.symm) ((hl2.extBut sb1.extBut D.l2z).extBut sb2.extBut D.l2i1) (fun y' ey g3 j2 sb3 => wpAny_pure (wpAny_pure (wpAny_pure ?_))) fun no => by rw [hy] at no; cases no)
  obtain rfl : y = y' := by rw [hy] at ey; exact Option.some.inj ey
  have sz : g3.objs.size = s.heap.objs.size := by rw [sb3.1, sb2.1, sb1.1]
  show wpAny _ _ (newTuple [x, y] >>= _) _ _ _
  refine wpAny_bind (wpAny_newTuple ?_)
  refine wpAny_pure ⟨_, rfl, wpAny_pure ?_⟩
  show Q (some (.ref g3.objs.size)) _
  rw [sz]
  have hz3 : ZipOut g3 z TI TO T true := sb3.extBut _ _ D.i2z.symm (sb2.extBut _ _ D.i1z.symm hz1)
  have h1' : g3.IsTupleIter i1 l1 (k1 + 1) := j1.extBut sb3.extBut D.i12
  refine hQ _ (Heap.get?_push_of_some _ hz3) (h1'.at fun o e => Heap.get?_push_of_some _ e) (j2.at fun o e => Heap.get?_push_of_some _ e) ?_ fun c o c1 c2 c3 e => Heap.get?_push_of_some _ (sb3.extBut _ _ c3 (sb2.extBut _ _ c2 (sb1.extBut _ _ c1 e)))
  rw [← sz]
  exact Heap.get?_push_size _ rfl
/-- the end while the own tuple is held -/
theorem zipT_end2 {z TI TO T i1 i2 l1 l2 : Addr} {bb : Bool} {k1 : Nat} {xs : Array Value} {oT : Obj} {Q : Option Value → Shared → Prop} (hh : A.handled = none) (D : ZipApart z TI TO i1 i2 l1 l2)
    (hz : ZipOut s.heap z TI TO T bb) (hT : s.heap.get? T = some oT) (hTI : IsPair s.heap TI (.ref i1) (.ref i2))
    (h1 : s.heap.IsTupleIter i1 l1 k1) (hl1 : s.heap.IsTuple l1 xs) (hx : xs[k1]? = none)
    (hQ : ∀ h', (∀ c o, c ≠ z → c ≠ i1 → s.heap.get? c = some o → h'.get? c = some o) → Q none { s with heap := h' }) :
    wpAny (model prog w) A (pyNext (.ref z)) Q E s := by
  have ty : s.TypeIs (.ref z) "zip" := ⟨_, hz, rfl⟩
  unfold pyNext
  refine wpAny_bind (wpAny_attempt (wpAny_callSpecial?_slot (name := Str.ofString "__next__") ty F.slot_zip_next (wpAny_call_entry F.slot_zip_next ty F.entry_zip_next ?_ (F.args_zip_next_1 _))))
  show wpAny _ _ (field (.ref z) 2 >>= _) _ _ _
  refine wpAny_bind (wpAny_field hz rfl (x := .bool false) rfl ?_)
  show wpAny _ _ (field (.ref z) 3 >>= _) _ _ _
  refine wpAny_bind (wpAny_field hz rfl (x := .ref TI) rfl ?_)
  refine wpAny_bind (wpAny_seqItems hTI rfl ?_)
  show wpAny _ _ (Builtin.SmallTypes.ownedTupleIsFree (.ref z) >>= _) _ _ _
  refine wpAny_bind (zip_busy hz hT fun g1 hz1 sb1 => ?_)
  simp only [Bool.false_eq_true, if_false]
  refine wpAny_bind ?_
  rw [← Array.forIn_toList]
  simp only [List.forIn_cons, List.forIn_nil]
  refine wpAny_bind (wpAny_bind (wpAny_holding ?_))
  show wpAny _ _ (Builtin.SmallTypes.nextOf (.ref i1) >>= _) _ _ _
  refine wpAny_bind (tup_draw (h1.extBut sb1.extBut D.i1z) (hl1.extBut sb1.extBut D.l1z) (fun x' ex => by rw [hx] at ex; cases ex) fun _ => ⟨hh, fun g2 e sb2 he => ?_⟩)
  obtain ⟨oe, hoe, hce⟩ := he
  refine wpAny_bind (wpAny_isInstance (T := "StopIteration") (b := true) ⟨oe, hoe, hce⟩ isSubtype_stop ?_)
  exact wpAny_pure (hQ _ fun c o c1 c2 q => sb2 _ _ c2 (sb1.extBut _ _ c1 q))
end
/-- list(zip(l1, l2)) under way: i pairs are drawn -/
structure ZIT (s0 : Shared) (S z TI TO i1 i2 l1 l2 : Addr) (xs ys : Array Value) (i : Nat) (acc : Array Value) (c : Nat) (s : Shared) : Prop where
  size : acc.size = i
  lst : s.heap.get? S = some { cls := .type "list", dict := none, data := .seq acc c, slots := #[] }
  zip : (i = 0 ∧ IsZip s.heap z TI TO .none) ∨ ∃ T bb, acc[0]? = some (.ref T) ∧ ZipOut s.heap z TI TO T bb
  ti : IsPair s.heap TI (.ref i1) (.ref i2)
  to : ∃ a b, IsPair s.heap TO a b
  it1 : s.heap.IsTupleIter i1 l1 i
  it2 : s.heap.IsTupleIter i2 l2 i
  ls1 : s.heap.IsTuple l1 xs
  ls2 : s.heap.IsTuple l2 ys
  prs : ∀ (j : Nat) (v : Value), acc[j]? = some v → ∃ T x y, v = .ref T ∧ xs[j]? = some x ∧ ys[j]? = some y ∧ IsPair s.heap T x y ∧ s0.heap.objs.size ≤ T
  kept : ∀ b o, b ∉ [S, z, TO, i1, i2] → s0.heap.get? b = some o → s.heap.get? b = some o
  grow : s0.heap.objs.size ≤ s.heap.objs.size
  rest : s = { s0 with heap := s.heap }
section
variable {prog : Program} {w : World} {A : Around} {E : Value → Shared → Prop} {s0 : Shared} {S z TI TO i1 i2 l1 l2 : Addr} {xs ys : Array Value}
theorem ZIT.next {i : Nat} {acc : Array Value} {c c' : Nat} {s : Shared} {h1 h2 : Heap} {T : Addr} {bb : Bool} {x y : Value} (D : ZipApart z TI TO i1 i2 l1 l2) (hS : S ∉ [z, TI, TO, i1, i2, l1, l2]) (hlt : ∀ b ∈ [S, z, TI, TO, i1, i2, l1, l2], b < s0.heap.objs.size) (q : ZIT s0 S z TI TO i1 i2 l1 l2 xs ys i acc c s)
    (hx : xs[i]? = some x) (hy : ys[i]? = some y) (zo : ZipOut h1 z TI TO T bb) (ac0 : (acc.push (.ref s.heap.objs.size))[0]? = some (.ref T)) (to : ∃ a b, IsPair h1 TO a b) (j1 : h1.IsTupleIter i1 l1 (i + 1)) (j2 : h1.IsTupleIter i2 l2 (i + 1)) (pr : IsPair h1 s.heap.objs.size x y)
    (kp : ∀ b o, b ≠ z → b ≠ TO → b ≠ i1 → b ≠ i2 → s.heap.get? b = some o → h1.get? b = some o) (hl : h2.get? S = some { cls := .type "list", dict := none, data := .seq (acc.push (.ref s.heap.objs.size)) c', slots := #[] }) (sb : Heap.SameBut S h1 h2) :
    ZIT s0 S z TI TO i1 i2 l1 l2 xs ys (i + 1) (acc.push (.ref s.heap.objs.size)) c' { s with heap := h2 } := by
  simp only [List.mem_cons, List.not_mem_nil, or_false, not_or] at hS
  obtain ⟨n1, n2, n3, n4, n5, n6, n7⟩ := hS
  have old : ∀ T', s0.heap.objs.size ≤ T' → T' ≠ z ∧ T' ≠ TO ∧ T' ≠ i1 ∧ T' ≠ i2 ∧ T' ≠ S := fun T' h => by
    have no : ∀ b ∈ [S, z, TI, TO, i1, i2, l1, l2], T' ≠ b := fun b hb e => Nat.lt_irrefl _ (Nat.lt_of_lt_of_le (hlt b hb) (e ▸ h))
    exact ⟨no _ (by simp), no _ (by simp), no _ (by simp), no _ (by simp), no _ (by simp)⟩
  have to2 : ∀ b o, b ≠ S → h1.get? b = some o → h2.get? b = some o := fun b o hb e => sb.extBut b o hb e
  have st := old _ q.grow
  obtain ⟨ta, tb, to⟩ := to
  refine ⟨by rw [Array.size_push, q.size], hl, .inr ⟨T, bb, ac0, to2 _ _ (Ne.symm n1) zo⟩, to2 _ _ (Ne.symm n2) (kp _ _ D.TIz D.TITO D.TIi1 D.TIi2 q.ti), ⟨ta, tb, to2 _ _ (Ne.symm n3) to⟩, j1.at fun o e => to2 _ _ (Ne.symm n4) e, j2.at fun o e => to2 _ _ (Ne.symm n5) e,
    q.ls1.at fun o e => to2 _ _ (Ne.symm n6) (kp _ _ D.l1z D.l1TO D.l1i1 D.l1i2 e), q.ls2.at fun o e => to2 _ _ (Ne.symm n7) (kp _ _ D.l2z D.l2TO D.l2i1 D.l2i2 e), fun j v hv => ?_, fun b o hb e => ?_, ?_, ?_⟩
  · rw [Array.getElem?_push] at hv
    split at hv
    · rename_i hj
      cases hv
      refine ⟨_, x, y, rfl, ?_, ?_, to2 _ _ st.2.2.2.2 pr, q.grow⟩
      · rw [hj, q.size]; exact hx
      · rw [hj, q.size]; exact hy
    · obtain ⟨T', x', y', e1, e2, e3, e4, e5⟩ := q.prs j v hv
      have o := old T' e5
      exact ⟨T', x', y', e1, e2, e3, to2 _ _ o.2.2.2.2 (kp _ _ o.1 o.2.1 o.2.2.1 o.2.2.2.1 e4), e5⟩
  · simp only [List.mem_cons, List.not_mem_nil, or_false, not_or] at hb
    exact to2 _ _ hb.1 (kp _ _ hb.2.1 hb.2.2.1 hb.2.2.2.1 hb.2.2.2.2 (q.kept b o (by simp [hb]) e))
  · show s0.heap.objs.size ≤ h2.objs.size
    have a := Heap.lt_size pr
    have b := q.grow
    rw [sb.1]
    exact Nat.le_trans b (Nat.le_of_lt a)
  · rw [q.rest]
theorem zipT_loop {R : Result → Shared → Prop} {res : Value} (hh : A.in1.handled = none) (D : ZipApart z TI TO i1 i2 l1 l2) (hS : S ∉ [z, TI, TO, i1, i2, l1, l2]) (hlt : ∀ b ∈ [S, z, TI, TO, i1, i2, l1, l2], b < s0.heap.objs.size) (hxy : xs.size = ys.size) (hn : xs.size ≤ sizeLine) {c : Nat} (q0 : ZIT s0 S z TI TO i1 i2 l1 l2 xs ys 0 #[] c s0)
    (hR : ∀ h' acc c', h'.get? S = some { cls := .type "list", dict := none, data := .seq acc c', slots := #[] } → acc.size = xs.size → (∀ (j : Nat) (v : Value), acc[j]? = some v → ∃ T x y, v = .ref T ∧ xs[j]? = some x ∧ ys[j]? = some y ∧ IsPair h' T x y ∧ s0.heap.objs.size ≤ T) →
      (∀ b o, b ∉ [S, z, TO, i1, i2] → s0.heap.get? b = some o → h'.get? b = some o) → R (.ok (.ret res)) { s0 with heap := h' }) :
    codeAny (model prog w) A (.builtin "list.extend.loop" ⟨[.ref S, .ref z, res], []⟩) R s0 := by
  have old : ∀ T', s0.heap.objs.size ≤ T' → T' ≠ z ∧ T' ≠ TO ∧ T' ≠ i1 ∧ T' ≠ i2 ∧ T' ≠ S := fun T' h => by
    have no : ∀ b ∈ [S, z, TI, TO, i1, i2, l1, l2], T' ≠ b := fun b hb e => Nat.lt_irrefl _ (Nat.lt_of_lt_of_le (hlt b hb) (e ▸ h))
    exact ⟨no _ (by simp), no _ (by simp), no _ (by simp), no _ (by simp), no _ (by simp)⟩
  have hS2 := hS
  simp only [List.mem_cons, List.not_mem_nil, or_false, not_or] at hS2
  obtain ⟨n1, n2, n3, n4, n5, n6, n7⟩ := hS2
  have held : ∀ {i acc c s T}, ZIT s0 S z TI TO i1 i2 l1 l2 xs ys i acc c s → acc[0]? = some (.ref T) → ∃ oT, s.heap.get? T = some oT ∧ s0.heap.objs.size ≤ T := fun {i acc c s T} q e => by
    obtain ⟨T', x, y, e1, _, _, e4, e5⟩ := q.prs 0 _ e
    cases e1
    exact ⟨_, e4, e5⟩
  refine loop_by (n := xs.size) (Fn := fun acc s => ∃ c', s.heap.get? S = some { cls := .type "list", dict := none, data := .seq acc c', slots := #[] } ∧ acc.size = xs.size ∧ (∀ (j : Nat) (v : Value), acc[j]? = some v → ∃ T x y, v = .ref T ∧ xs[j]? = some x ∧ ys[j]? = some y ∧ IsPair s.heap T x y ∧ s0.heap.objs.size ≤ T) ∧
      (∀ b o, b ∉ [S, z, TO, i1, i2] → s0.heap.get? b = some o → s.heap.get? b = some o) ∧ s = { s0 with heap := s.heap }) hn (ZIT s0 S z TI TO i1 i2 l1 l2 xs ys) (fun i acc c s q => ⟨q.size, q.lst⟩) (fun i acc c s Q E hi q go => ?_) (fun acc c s Q E q fin => ?_) xs.size 0 s0 #[] c rfl (Nat.zero_le _) q0 fun s' acc' ⟨c', e1, e2, e3, e4, e5⟩ => ?_
  · have hx : xs[i]? = some xs[i] := Array.getElem?_eq_getElem hi
    have hy : ys[i]? = some (ys[i]'(by omega)) := Array.getElem?_eq_getElem (by omega)
    rcases q.zip with ⟨i0, hz⟩ | ⟨T, bb, e0, hz⟩
    · obtain ⟨ta, tb, hto⟩ := q.to
      refine zipT_first D hz q.ti hto q.it1 q.it2 q.ls1 q.ls2 hx hy fun h' a1 a2 a3 a4 a5 kp => go _ _ ?_ fun h2 c' hl sb => ?_
      · exact kp _ _ n1 n3 n4 n5 q.lst
      · refine q.next D hS hlt hx hy (bb := false) a1 ?_ ⟨_, _, a2⟩ a3 a4 a5 kp hl sb
        rw [Array.getElem?_push, if_pos (by rw [q.size, i0])]
    · obtain ⟨oT, hT, _⟩ := held q e0
      refine zipT_item2 D hz hT q.ti q.it1 q.it2 q.ls1 q.ls2 hx hy fun h' a1 a3 a4 a5 kp => go _ _ ?_ fun h2 c' hl sb => ?_
      · exact kp _ _ n1 n4 n5 q.lst
      · obtain ⟨ta, tb, hto⟩ := q.to
        refine q.next D hS hlt hx hy a1 ?_ ⟨ta, tb, kp _ _ D.TOz D.TOi1 D.TOi2 hto⟩ a3 a4 a5 (fun b o b1 _ b3 b4 e => kp b o b1 b3 b4 e) hl sb
        rw [Array.getElem?_push_lt (by obtain ⟨h0, _⟩ := Array.getElem?_eq_some_iff.mp e0; exact h0)]
        rw [Array.getElem?_eq_some_iff] at e0
        obtain ⟨h0, e0⟩ := e0
        rw [e0]
  · have hx : xs[xs.size]? = none := Array.getElem?_eq_none (Nat.le_refl _)
    have fin' : ∀ h', (∀ b o, b ≠ z → b ≠ TO → b ≠ i1 → b ≠ i2 → s.heap.get? b = some o → h'.get? b = some o) → Q none { s with heap := h' } := fun h' kp => by
      refine fin _ ⟨c, kp _ _ n1 n3 n4 n5 q.lst, q.size, fun j v hv => ?_, fun b o hb e => ?_, by rw [q.rest]⟩
      · obtain ⟨T', x', y', e1, e2, e3, e4, e5⟩ := q.prs j v hv
        have o := old T' e5
        exact ⟨T', x', y', e1, e2, e3, kp _ _ o.1 o.2.1 o.2.2.1 o.2.2.2.1 e4, e5⟩
      · have hb' := hb
        simp only [List.mem_cons, List.not_mem_nil, or_false, not_or] at hb
        exact kp _ _ hb.2.1 hb.2.2.1 hb.2.2.2.1 hb.2.2.2.2 (q.kept b o hb' e)
    rcases q.zip with ⟨i0, hz⟩ | ⟨T, bb, e0, hz⟩
    · obtain ⟨ta, tb, hto⟩ := q.to
      exact zipT_none hh D hz q.ti hto q.it1 q.ls1 hx fun h' kp => fin' h' fun b o b1 _ b3 _ e => kp b o b1 b3 e
    · obtain ⟨oT, hT, _⟩ := held q e0
      exact zipT_end2 hh D hz hT q.ti q.it1 q.ls1 hx fun h' kp => fin' h' fun b o b1 _ b3 _ e => kp b o b1 b3 e
  · rw [e5]
    exact hR _ acc' c' e1 e2 e3 e4
theorem extend_zipT {s : Shared} {R : Result → Shared → Prop} {res : Value} {c0 : Nat} (hh : A.handled = none) (D : ZipApart z TI TO i1 i2 l1 l2) (hS : S ∉ [z, TI, TO, i1, i2, l1, l2]) (hxy : xs.size = ys.size) (hn : xs.size ≤ sizeLine)
    (hL : s.heap.get? S = some { cls := .type "list", data := .seq #[] c0 }) (hz : IsZip s.heap z TI TO .none) (hTI : IsPair s.heap TI (.ref i1) (.ref i2)) (hTO : ∃ a b, IsPair s.heap TO a b) (h1 : s.heap.IsTupleIter i1 l1 0) (h2 : s.heap.IsTupleIter i2 l2 0) (hl1 : s.heap.IsTuple l1 xs) (hl2 : s.heap.IsTuple l2 ys)
    (hR : ∀ h' acc c', h'.get? S = some { cls := .type "list", dict := none, data := .seq acc c', slots := #[] } → acc.size = xs.size → (∀ (j : Nat) (v : Value), acc[j]? = some v → ∃ T x y, v = .ref T ∧ xs[j]? = some x ∧ ys[j]? = some y ∧ IsPair h' T x y ∧ s.heap.objs.size ≤ T) →
      (∀ b o, b ∉ [S, z, TO, i1, i2] → s.heap.get? b = some o → h'.get? b = some o) → R (.ok (.ret res)) { s with heap := h' }) :
    wpAny (model prog w) A.in1 (Builtin.List.listExtendWith (.ref S) (.ref z) res)
      (fun fin s' => match fin with | .done f => R (.ok f) s' | .again c' => c'.quiet = true ∧ codeAny (model prog w) A c' R s') (fun e s' => R (.error e) s') s := by
  have ty : s.TypeIs (.ref z) "zip" := ⟨_, hz, rfl⟩
  have hS2 := hS
  simp only [List.mem_cons, List.not_mem_nil, or_false, not_or] at hS2
  obtain ⟨n1, n2, n3, n4, n5, n6, n7⟩ := hS2
  unfold Builtin.List.listExtendWith
  refine wpAny_bind (wpAny_typeOf ty ?_)
  have e1 : Builtin.List.listSameRef (.ref S) (.ref z) = false := by simp [Builtin.List.listSameRef, n1]
  have e2 : (Value.type "zip" == Value.type "list") = false := by decide
  have e3 : (Value.type "zip" == Value.type "tuple") = false := by decide
  simp only [e1, e2, e3, Bool.or_false, Bool.false_eq_true, if_false]
  refine wpAny_bind (wpAny_pyIter_zip hz ?_)
  refine wpAny_bind (wpAny_holding ?_)
  unfold Builtin.List.listLengthHint
  refine wpAny_bind (wpAny_specialOf ty zip_nolen ?_)
  show wpAny _ A.in1 (specialOf (Value.ref z) (Str.ofString "__length_hint__") >>= _) _ _ _
  refine wpAny_bind (wpAny_specialOf ty zip_nohint ?_)
  refine wpAny_pure ?_
  show wpAny _ A.in1 (rule "list.extend.makes-room" >>= fun _ => Builtin.List.listTouch (.ref S) >>= fun _ => again (.builtin "list.extend.loop" ⟨[.ref S, .ref z, res], []⟩)) _ _ _
  refine wpAny_bind (wpAny_rule (wpAny_bind ?_))
  show wpAny _ A.in1 (updateSeq S (·.push .none) >>= fun _ => updateSeq S (·.pop)) _ _ _
  refine wpAny_bind (wpAny_updateSeq hL rfl ?_)
  have hL2 := Heap.get?_update_self (Obj.mapSeq (·.push Value.none)) hL rfl
  refine wpAny_updateSeq hL2 rfl ?_
  have hL3 := Heap.get?_update_self (Obj.mapSeq (·.pop)) hL2 rfl
  have sb : Heap.SameBut S s.heap ((s.heap.update S (Obj.mapSeq (·.push Value.none))).update S (Obj.mapSeq (·.pop))) := ⟨by rw [(Heap.SameBut.update ..).1, (Heap.SameBut.update ..).1], fun b hb => (Heap.get?_update_other _ _ (Ne.symm hb)).trans (Heap.get?_update_other _ _ (Ne.symm hb))⟩
  have oth : ∀ b o, b ≠ S → s.heap.get? b = some o → ((s.heap.update S (Obj.mapSeq (·.push Value.none))).update S (Obj.mapSeq (·.pop))).get? b = some o := fun b o hb e => sb.extBut b o hb e
  generalize hg : (s.heap.update S (Obj.mapSeq (·.push Value.none))).update S (Obj.mapSeq (·.pop)) = g at hL3 sb oth
  refine wpAny_pure ⟨plainId_quiet F.plain_extend_loop _, ?_⟩
  try rw [hg]
  have lt : ∀ b o, s.heap.get? b = some o → b < g.objs.size := fun b o e => by rw [sb.1]; exact Heap.lt_size e
  obtain ⟨ta, tb, hTO⟩ := hTO
  refine zipT_loop (s0 := { s with heap := g }) (A := A) hh D hS (fun b hb => ?_) hxy hn ⟨rfl, hL3, .inl ⟨rfl, oth _ _ (Ne.symm n1) hz⟩, oth _ _ (Ne.symm n2) hTI, ⟨ta, tb, oth _ _ (Ne.symm n3) hTO⟩, h1.at fun o e => oth _ _ (Ne.symm n4) e, h2.at fun o e => oth _ _ (Ne.symm n5) e, hl1.at fun o e => oth _ _ (Ne.symm n6) e, hl2.at fun o e => oth _ _ (Ne.symm n7) e, fun j v hv => by simp at hv, fun b o _ e => e, Nat.le_refl _, rfl⟩ fun h' acc c' a1 a2 a3 a4 => hR h' acc c' a1 a2 ?_ ?_
  · show b < g.objs.size
    simp only [List.mem_cons, List.not_mem_nil, or_false] at hb
    rcases hb with rfl | rfl | rfl | rfl | rfl | rfl | rfl | rfl
    · exact lt _ _ hL
    · exact lt _ _ hz
    · exact lt _ _ hTI
    · exact lt _ _ hTO
    · obtain ⟨o, e, _⟩ := h1; exact lt _ _ e
    · obtain ⟨o, e, _⟩ := h2; exact lt _ _ e
    · obtain ⟨o, e, _⟩ := hl1; exact lt _ _ e
    · obtain ⟨o, e, _⟩ := hl2; exact lt _ _ e
  · intro j v hv
    obtain ⟨T, x, y, b1, b2, b3, b4, b5⟩ := a3 j v hv
    exact ⟨T, x, y, b1, b2, b3, b4, by rw [← sb.1]; exact b5⟩
  · intro b o hb e
    exact a4 b o hb (oth b o (fun z => hb (by simp [z])) e)
theorem init_zipT {s : Shared} {R : Result → Shared → Prop} (hh : A.handled = none) (D : ZipApart z TI TO i1 i2 l1 l2) (hS : S ∉ [z, TI, TO, i1, i2, l1, l2]) (hxy : xs.size = ys.size) (hn : xs.size ≤ sizeLine)
    (hL : s.heap.get? S = some { cls := .type "list", data := .seq #[] }) (hz : IsZip s.heap z TI TO .none) (hTI : IsPair s.heap TI (.ref i1) (.ref i2)) (hTO : ∃ a b, IsPair s.heap TO a b) (h1 : s.heap.IsTupleIter i1 l1 0) (h2 : s.heap.IsTupleIter i2 l2 0) (hl1 : s.heap.IsTuple l1 xs) (hl2 : s.heap.IsTuple l2 ys)
    (hR : ∀ h' acc c', h'.get? S = some { cls := .type "list", dict := none, data := .seq acc c', slots := #[] } → acc.size = xs.size → (∀ (j : Nat) (v : Value), acc[j]? = some v → ∃ T x y, v = .ref T ∧ xs[j]? = some x ∧ ys[j]? = some y ∧ IsPair h' T x y ∧ s.heap.objs.size ≤ T) →
      (∀ b o, b ∉ [S, z, TO, i1, i2] → s.heap.get? b = some o → h'.get? b = some o) → R (.ok (.ret .none)) { s with heap := h' }) :
    wpAny (model prog w) A.in1 (Builtin.«list.__init__» ⟨[.ref S, .ref z], []⟩)
      (fun fin s' => match fin with | .done f => R (.ok f) s' | .again c' => c'.quiet = true ∧ codeAny (model prog w) A c' R s') (fun e s' => R (.error e) s') s := by
  have hS2 := hS
  simp only [List.mem_cons, List.not_mem_nil, or_false, not_or] at hS2
  obtain ⟨n1, n2, n3, n4, n5, n6, n7⟩ := hS2
  show wpAny _ _ (do let old ← Builtin.List.listItems (.ref S); Builtin.List.listUpdate (.ref S) (fun _ => #[]); letGo old.toList.reverse; Builtin.List.listExtendWith (.ref S) (.ref z) .none) _ _ s
  refine wpAny_bind ?_
  unfold Builtin.List.listItems
  refine wpAny_bind (wpAny_seqItems hL rfl (wpAny_pure ?_))
  show wpAny _ _ (updateSeq S (fun _ => #[]) >>= fun _ => letGo (#[] : Array Value).toList.reverse >>= fun _ => Builtin.List.listExtendWith (.ref S) (.ref z) .none) _ _ s
  refine wpAny_bind (wpAny_updateSeq hL rfl ?_)
  have hL2 := Heap.get?_update_self (Obj.mapSeq (fun _ => (#[] : Array Value))) hL rfl
  have sb : Heap.SameBut S s.heap (s.heap.update S (Obj.mapSeq (fun _ => (#[] : Array Value)))) := Heap.SameBut.update ..
  have oth : ∀ b o, b ≠ S → s.heap.get? b = some o → (s.heap.update S (Obj.mapSeq (fun _ => (#[] : Array Value)))).get? b = some o := fun b o hb e => sb.extBut b o hb e
  refine wpAny_bind (wpAny_letGo ?_)
  obtain ⟨ta, tb, hTO⟩ := hTO
  refine extend_zipT hh D hS hxy hn hL2 (oth _ _ (Ne.symm n1) hz) (oth _ _ (Ne.symm n2) hTI) ⟨ta, tb, oth _ _ (Ne.symm n3) hTO⟩ (h1.at fun o e => oth _ _ (Ne.symm n4) e) (h2.at fun o e => oth _ _ (Ne.symm n5) e) (hl1.at fun o e => oth _ _ (Ne.symm n6) e) (hl2.at fun o e => oth _ _ (Ne.symm n7) e) fun h' acc c' a1 a2 a3 a4 => hR h' acc c' a1 a2 ?_ ?_
  · intro j v hv
    obtain ⟨T, x, y, b1, b2, b3, b4, b5⟩ := a3 j v hv
    exact ⟨T, x, y, b1, b2, b3, b4, by rw [← sb.1]; exact b5⟩
  · intro b o hb e
    exact a4 b o hb (oth b o (fun z => hb (by simp [z])) e)
/-- list(zip(l1, l2)) of two tuples of one length -/
theorem call_list_zipT {s : Shared} {Q : Value → Shared → Prop} (hh : A.handled = none) (D : ZipApart z TI TO i1 i2 l1 l2) (hxy : xs.size = ys.size) (hn : xs.size ≤ sizeLine)
    (hz : IsZip s.heap z TI TO .none) (hTI : IsPair s.heap TI (.ref i1) (.ref i2)) (hTO : ∃ a b, IsPair s.heap TO a b) (h1 : s.heap.IsTupleIter i1 l1 0) (h2 : s.heap.IsTupleIter i2 l2 0) (hl1 : s.heap.IsTuple l1 xs) (hl2 : s.heap.IsTuple l2 ys)
    (hQ : ∀ h' acc c', h'.get? s.heap.objs.size = some { cls := .type "list", dict := none, data := .seq acc c', slots := #[] } → acc.size = xs.size → (∀ (j : Nat) (v : Value), acc[j]? = some v → ∃ T x y, v = .ref T ∧ xs[j]? = some x ∧ ys[j]? = some y ∧ IsPair h' T x y ∧ s.heap.objs.size < T) →
      (∀ b o, b ∉ [z, TO, i1, i2] → s.heap.get? b = some o → h'.get? b = some o) → Q (.ref s.heap.objs.size) { s with heap := h' }) :
    wpAny (model prog w) A (call (.type "list") [.ref z]) Q E s := by
  refine callType_codes (Q₁ := fun obj s₁ => obj = .ref s.heap.objs.size ∧ s₁ = { s with heap := s.heap.push { cls := .type "list", data := .seq #[] } }) F.called_list (F.typeCall_list_1 _) F.entry_list_init (code_list_new _ ⟨rfl, rfl⟩) fun obj s₁ h₁ => ?_
  obtain ⟨rfl, rfl⟩ := h₁
  have hL : (s.heap.push { cls := .type "list", data := .seq #[] }).get? s.heap.objs.size = some { cls := .type "list", data := .seq #[] } := Heap.get?_push_size _ rfl
  have up : ∀ b o, s.heap.get? b = some o → (s.heap.push { cls := .type "list", data := .seq #[] }).get? b = some o := fun b o e => Heap.get?_push_of_some _ e
  have ne : ∀ b o, s.heap.get? b = some o → s.heap.objs.size ≠ b := fun b o e => Nat.ne_of_gt (Heap.lt_size e)
  have hS : s.heap.objs.size ∉ [z, TI, TO, i1, i2, l1, l2] := by
    obtain ⟨ta, tb, hTO⟩ := hTO
    simp only [List.mem_cons, List.not_mem_nil, or_false, not_or]
    refine ⟨ne _ _ hz, ne _ _ hTI, ne _ _ hTO, ?_, ?_, ?_, ?_⟩
    · obtain ⟨o, e, _⟩ := h1; exact ne _ _ e
    · obtain ⟨o, e, _⟩ := h2; exact ne _ _ e
    · obtain ⟨o, e, _⟩ := hl1; exact ne _ _ e
    · obtain ⟨o, e, _⟩ := hl2; exact ne _ _ e
  obtain ⟨ta, tb, hTO⟩ := hTO
  refine ⟨⟨_, hL, rfl⟩, F.args_list_init_2 _ _, init_zipT (A := A.in1) hh D hS hxy hn hL (up _ _ hz) (up _ _ hTI) ⟨ta, tb, up _ _ hTO⟩ (h1.at fun o e => up _ _ e) (h2.at fun o e => up _ _ e) (hl1.push _) (hl2.push _) fun h' acc c' a1 a2 a3 a4 => ?_⟩
  refine ⟨rfl, hQ h' acc c' a1 a2 (fun j v hv => ?_) fun b o hb e => a4 b o ?_ (up _ _ e)⟩
  · obtain ⟨T, x, y, b1, b2, b3, b4, b5⟩ := a3 j v hv
    exact ⟨T, x, y, b1, b2, b3, b4, by rw [Heap.size_push] at b5; exact b5⟩
  · intro m
    rcases List.mem_cons.mp m with z | z
    · exact ne _ _ e z.symm
    · exact hb z
end
end STab
namespace L2
open PySem PySem.Spec PyProof.Rows
section
variable {X : Cx} {e1 e2 : Expr} {t1 t2 : TE} {p p2 pos pos2 : Pos}
/-- list(zip(xs, ys)), two lists of one length -/
def tListZipT (K : PySem.W.Frag) (t1 t2 : TE) : TE := fun σ H Q => t1 σ H fun x H1 => t2 σ H1 fun y H2 => ∃ (l1 l2 : Addr) (xs ys : List V), x = .ref l1 ∧ y = .ref l2 ∧ SqT K H2 l1 xs ∧ SqT K H2 l2 ys ∧ xs.length = ys.length ∧
  ∀ (q : Addr) (ws : List V) (H3 : Hp), H2 q = none → Same H2 H3 → H3 q = some (.lst ws) → Paired (TwoR H3) ws (xs.zip ys) → Q (.ref q) H3
def zipArgsT (K : PySem.W.Frag) (Q : VK) : List V → Hp → Prop
  | [x, y], H2 => ∃ (l1 l2 : Addr) (xs ys : List V), x = .ref l1 ∧ y = .ref l2 ∧ SqT K H2 l1 xs ∧ SqT K H2 l2 ys ∧ xs.length = ys.length ∧
    ∀ (q : Addr) (ws : List V) (H3 : Hp), H2 q = none → Same H2 H3 → H3 q = some (.lst ws) → Paired (TwoR H3) ws (xs.zip ys) → Q (.ref q) H3
  | _, _ => False
open Classical in
theorem pe_listZipT (hc : X.calm = true) (g1 : Gl X "list") (m1 : X.mg "list" = none) (g2 : Gl X "zip") (m2 : X.mg "zip" = none) (h1 : PE X e1 t1) (h2 : PE X e2 t2)
    (s1 : starEach [.Call (.Name "zip" p2) [e1, e2] [] pos2] X.env = [(false, eval (.Call (.Name "zip" p2) [e1, e2] [] pos2) X.env)] := by rfl) (s2 : starEach [e1, e2] X.env = [(false, eval e1 X.env), (false, eval e2 X.env)] := by rfl) (s3 : starEach [e2] X.env = [(false, eval e2 X.env)] := by rfl) :
    PE X (.Call (.Name "list" p) [.Call (.Name "zip" p2) [e1, e2] [] pos2] [] pos) (tListZipT X.K t1 t2) := by
  intro pins s σ H Q I h
  refine wpAny_Call_Name_kw (ld_blt I g1 m1 PyProof.Rows.boot_list (PyProof.Rows.callWith_type1 ?_ s1 rfl))
  rw [s1]
  show wpAny _ _ (spliced ((false, eval (.Call (.Name "zip" p2) [e1, e2] [] pos2) X.env) :: backTo pos (starEach [] X.env))) _ _ s
  refine Calls.spliced_cons ?_
  refine wpAny_Call_Name_kw (ld_blt I g2 m2 PyProof.Rows.boot_zip (PyProof.Rows.callWith_type1 ?_ (by rw [s2, s3]) (by rw [s3]; rfl)))
  refine thn (pa_cons h1 (pa_cons h2 pa_nil s3) (by rw [s2, s3]) pos2 pins s σ H (zipArgsT X.K Q) I h) fun us s4 ⟨vs, H2, I4, r4, q⟩ => ?_
  rcases vs with _ | ⟨x, _ | ⟨y, _ | ⟨_, _⟩⟩⟩
  · exact False.elim q
  · exact False.elim q
  · obtain ⟨l1, l2, xs, ys, rfl, rfl, hq1, hq2, hl, q⟩ := q
    cases r4 with
    | cons ra r4 =>
      cases r4 with
      | cons rb r4 =>
        cases r4
        cases ra
        cases rb
        obtain ⟨its1, v1, p1, z1⟩ := I4.tuple hq1
        obtain ⟨its2, v2, p2', z2⟩ := I4.tuple hq2
        have ls1 : s4.heap.IsTuple l1 its1.toArray := p1
        have ls2 : s4.heap.IsTuple l2 its2.toArray := p2'
        have len1 := v1.length
        have len2 := v2.length
        refine STab.call_zipT ls1 ls2 fun h5 hz hTI hTO j1 j2 sz k5 => ?_
        have lt1 : l1 < s4.heap.objs.size := by obtain ⟨o, e, _⟩ := ls1; exact Heap.lt_size e
        have lt2 : l2 < s4.heap.objs.size := by obtain ⟨o, e, _⟩ := ls2; exact Heap.lt_size e
        have ne : ∀ {a b : Nat}, a ≠ b → (a : Addr) ≠ b := fun h => h
        have D : ZipApart (s4.heap.objs.size + 4) (s4.heap.objs.size + 2) (s4.heap.objs.size + 3) s4.heap.objs.size (s4.heap.objs.size + 1) l1 l2 := by
          have f : ∀ i : Nat, l1 ≠ s4.heap.objs.size + i := fun i => Nat.ne_of_lt (Nat.lt_of_lt_of_le lt1 (Nat.le_add_right _ _))
          have g : ∀ i : Nat, l2 ≠ s4.heap.objs.size + i := fun i => Nat.ne_of_lt (Nat.lt_of_lt_of_le lt2 (Nat.le_add_right _ _))
          constructor
          all_goals first | exact f _ | exact g _ | exact f 0 | exact g 0 | exact ne (by omega)
        refine Calls.spliced_nil ?_
        refine STab.call_list_zipT (A := X.A) (s := { s4 with heap := h5 }) (I.ok.hd hc) D (by rw [List.size_toArray, List.size_toArray]; omega) (by rw [List.size_toArray]; omega) hz hTI ⟨_, _, hTO⟩ j1 j2 (ls1.at fun o e => k5 _ _ e) (ls2.at fun o e => k5 _ _ e) fun h6 acc c6 a1 a2 a3 a4 => ?_
        have a1 : h6.get? h5.objs.size = some { cls := .type "list", dict := none, data := .seq acc c6, slots := #[] } := a1
        have k6 : ∀ b o, s4.heap.get? b = some o → h6.get? b = some o := fun b o e => by
          refine a4 b o (fun m => ?_) (k5 b o e)
          have lb := Heap.lt_size e
          simp only [List.mem_cons, List.not_mem_nil, or_false] at m
          rcases m with rfl | rfl | rfl | rfl
          · exact absurd lb (Nat.not_lt.mpr (Nat.le_add_right _ _))
          · exact absurd lb (Nat.not_lt.mpr (Nat.le_add_right _ _))
          · exact absurd lb (Nat.lt_irrefl _)
          · exact absurd lb (Nat.not_lt.mpr (Nat.le_add_right _ _))
        have hq5 : s4.heap.objs.size ≤ h5.objs.size := by rw [sz]; exact Nat.le_add_right _ _
        let Pb : Addr → Prop := fun b => ∃ k : V × V, ∃ j : Nat, acc[j]? = some (.ref b) ∧ (xs.zip ys)[j]? = some k
        let ws : List V := acc.toList.map fun v => match v with | .ref b => V.ref b | _ => V.non
        let H3 : Hp := fun b => if b = h5.objs.size then some (.lst ws) else if hb : Pb b then some (.tup [(Classical.choose hb).1, (Classical.choose hb).2]) else H2 b
        have pair_of : ∀ (j : Nat) (b : Addr) (k : V × V), acc[j]? = some (.ref b) → (xs.zip ys)[j]? = some k → ∃ u v, RelV k.1 u ∧ RelV k.2 v ∧ IsPair h6 b u v ∧ h5.objs.size < b := by
          intro j b k e1 e2
          obtain ⟨T, u, v, f1, f2, f3, f4, f5⟩ := a3 j _ e1
          cases f1
          rw [List.getElem?_zip_eq_some] at e2
          obtain ⟨g1', g2'⟩ := e2
          obtain ⟨u', hu, ru⟩ := v1.get g1'
          obtain ⟨v', hv, rv⟩ := v2.get g2'
          have eu : u' = u := by
            have f2 : its1.toArray[j]? = some u := f2
            rw [List.getElem?_toArray, hu] at f2
            exact Option.some.inj f2
          have ev : v' = v := by
            have f3 : its2.toArray[j]? = some v := f3
            rw [List.getElem?_toArray, hv] at f3
            exact Option.some.inj f3
          subst eu; subst ev
          exact ⟨u', v', ru, rv, f4, f5⟩
        have at_ : ∀ (j : Nat) (b : Addr) (k : V × V), acc[j]? = some (.ref b) → (xs.zip ys)[j]? = some k → H3 b = some (.tup [k.1, k.2]) := by
          intro j b k e1 e2
          obtain ⟨u, v, ru, rv, ip, lt⟩ := pair_of j b k e1 e2
          have hb : Pb b := ⟨k, j, e1, e2⟩
          have hne : b ≠ h5.objs.size := Nat.ne_of_gt lt
          show (if b = h5.objs.size then _ else _) = _
          rw [if_neg hne, dif_pos hb]
          obtain ⟨j', e1', e2'⟩ := Classical.choose_spec hb
          obtain ⟨u', v', ru', rv', ip', _⟩ := pair_of j' b _ e1' e2'
          have e := ip.symm.trans ip'
          cases e
          rw [ru'.inj ru, rv'.inj rv]
        have sizeacc : acc.size = (xs.zip ys).length := by
          rw [a2, List.size_toArray, List.length_zip]
          omega
        have prd : Paired (TwoR H3) ws (xs.zip ys) := by
          have gen : ∀ (us : List Value) (ks : List (V × V)), us.length = ks.length → (∀ (j : Nat) (v : Value) (k : V × V), us[j]? = some v → ks[j]? = some k → ∃ b, v = .ref b ∧ H3 b = some (.tup [k.1, k.2])) → Paired (TwoR H3) (us.map fun v => match v with | .ref b => V.ref b | _ => V.non) ks := by
            intro us
            induction us with
            | nil =>
              intro ks e _
              cases ks with
              | nil => exact .nil
              | cons _ _ => cases e
            | cons u us ih =>
              intro ks e f
              cases ks with
              | nil => cases e
              | cons k ks =>
                obtain ⟨b, rfl, hb⟩ := f 0 u k rfl rfl
                exact .cons ⟨b, rfl, hb⟩ (ih ks (by simpa using e) fun j v k' e1 e2 => f (j + 1) v k' (by simpa using e1) (by simpa using e2))
          refine gen acc.toList _ (by simpa using sizeacc) fun j v k e1 e2 => ?_
          have e1 : acc[j]? = some v := by simpa using e1
          obtain ⟨T, u, v', f1, _⟩ := a3 j v e1
          subst f1
          exact ⟨T, rfl, at_ j T k e1 e2⟩
        have new : Inv X pins σ H3 { s4 with heap := h6, toks := s4.toks } := by
          refine I4.news k6 (fun b hb => ?_) (fun b u hb e => ?_)
          · show (if b = h5.objs.size then _ else _) = _
            rw [if_neg (Nat.ne_of_lt (Nat.lt_of_lt_of_le hb hq5)), dif_neg]
            rintro ⟨k, j, e1, e2⟩
            obtain ⟨_, _, _, _, _, lt⟩ := pair_of j b k e1 e2
            exact Nat.lt_irrefl _ (Nat.lt_trans lt (Nat.lt_of_lt_of_le hb hq5))
          · have e : (if b = h5.objs.size then some (HO.lst ws) else if hb : Pb b then some (.tup [(Classical.choose hb).1, (Classical.choose hb).2]) else H2 b) = some u := e
            by_cases hbq : b = h5.objs.size
            · rw [if_pos hbq] at e
              cases e
              subst hbq
              refine ⟨?_, acc.toList, c6, ?_, ?_⟩
              · show (acc.toList.map _).length ≤ _
                rw [List.length_map, Array.length_toList, a2, List.size_toArray]
                omega
              · have gen : ∀ us : List Value, (∀ v ∈ us, ∃ b, v = Value.ref b) → Vals (us.map fun v => match v with | .ref b => V.ref b | _ => V.non) us := by
                  intro us
                  induction us with
                  | nil => intro _; exact .nil
                  | cons u us ih =>
                    intro f
                    obtain ⟨b, rfl⟩ := f u (List.mem_cons_self ..)
                    exact .cons rfl (ih fun v hv => f v (List.mem_cons_of_mem _ hv))
                refine gen _ fun v hv => ?_
                obtain ⟨j, e1⟩ := List.getElem?_of_mem hv
                obtain ⟨T, u, v', f1, _⟩ := a3 j v (by simpa using e1)
                exact ⟨T, f1⟩
              · simpa using a1
            · rw [if_neg hbq] at e
              by_cases hb' : Pb b
              · have hb'' := hb'
                obtain ⟨k, j, e1, e2⟩ := hb''
                have e3 := at_ j b k e1 e2
                have e4 : H3 b = some u := by
                  show (if b = h5.objs.size then _ else _) = _
                  rw [if_neg hbq]
                  exact e
                rw [e3] at e4
                cases e4
                obtain ⟨u', v', ru, rv, ip, _⟩ := pair_of j b k e1 e2
                exact ⟨show 2 ≤ sizeLine by decide, [u', v'], .cons ru (.cons rv .nil), ⟨_, ip, rfl, _, rfl⟩⟩
              · rw [dif_neg hb'] at e
                exact absurd (I4.hok b u e).lt (Nat.not_lt.mpr hb)
        refine ⟨.ref h5.objs.size, H3, new, rfl, ?_⟩
        refine q h5.objs.size ws H3 (I4.hok.fresh hq5) (fun b u e => ?_) ?_ prd
        · have lb := (I4.hok b u e).lt
          show (if b = h5.objs.size then _ else _) = _
          rw [if_neg (Nat.ne_of_lt (Nat.lt_of_lt_of_le lb hq5)), dif_neg]
          · exact e
          · rintro ⟨k, j, e1, e2⟩
            obtain ⟨_, _, _, _, _, lt⟩ := pair_of j b k e1 e2
            exact Nat.lt_irrefl _ (Nat.lt_trans lt (Nat.lt_of_lt_of_le lb hq5))
        · show (if h5.objs.size = h5.objs.size then _ else _) = _
          rw [if_pos rfl]
  · exact False.elim q
end
end L2
namespace L2
open PySem PySem.Spec PyProof.Rows
theorem lexLt_irr : ∀ a : List Int, HT.lexLt a a = false
  | [] => rfl
  | x :: xs => by rw [HT.lexLt_cons, if_pos rfl]; exact lexLt_irr xs
theorem lexLt_tr : ∀ {a b c : List Int}, HT.lexLt a b = true → HT.lexLt b c = true → HT.lexLt a c = true
  | [], [], _, h, _ => by cases h
  | [], _ :: _, [], _, h => by cases h
  | [], _ :: _, _ :: _, _, _ => rfl
  | _ :: _, [], _, h, _ => by cases h
  | _ :: _, _ :: _, [], _, h => by cases h
  | x :: xs, y :: ys, z :: zs, h, k => by
    rw [HT.lexLt_cons] at h k ⊢
    by_cases e : x = y
    · by_cases f : y = z
      · rw [if_pos e] at h
        rw [if_pos f] at k
        rw [if_pos (e.trans f)]
        exact lexLt_tr h k
      · rw [if_neg f] at k
        rw [if_neg (fun q => f (e.symm.trans q)), e]
        exact k
    · rw [if_neg e] at h
      have h := of_decide_eq_true h
      by_cases f : y = z
      · rw [if_neg (fun q => e (q.trans f.symm)), ← f]
        exact decide_eq_true h
      · rw [if_neg f] at k
        have k := of_decide_eq_true k
        rw [if_neg (by omega)]
        exact decide_eq_true (by omega)
/-- ranks: an int, an int, a list of ints -/
def rk3 : Int × Int × List Int → Int × Int × List Int → Bool := lt3 (fun a b => decide (a < b)) (fun a b => decide (a < b)) HT.lexLt
theorem rk3_iff {p q : Int × Int × List Int} : rk3 p q = true ↔ p.1 < q.1 ∨ p.1 = q.1 ∧ (p.2.1 < q.2.1 ∨ p.2.1 = q.2.1 ∧ p.2.2 ≠ q.2.2 ∧ HT.lexLt p.2.2 q.2.2 = true) := by
  show (if decide (p.1 = q.1) = true then (if decide (p.2.1 = q.2.1) = true then (if decide (p.2.2 = q.2.2) = true then false else HT.lexLt p.2.2 q.2.2) else decide (p.2.1 < q.2.1)) else decide (p.1 < q.1)) = true ↔ _
  by_cases e : p.1 = q.1
  · rw [if_pos (decide_eq_true e)]
    by_cases f : p.2.1 = q.2.1
    · rw [if_pos (decide_eq_true f)]
      by_cases g : p.2.2 = q.2.2
      · rw [if_pos (decide_eq_true g)]
        refine ⟨(fun h => by cases h), fun h => ?_⟩
        rcases h with h | ⟨_, h | ⟨_, h, _⟩⟩
        · omega
        · omega
        · exact absurd g h
      · rw [if_neg (by rw [decide_eq_false g]; exact Bool.false_ne_true)]
        refine ⟨fun h => .inr ⟨e, .inr ⟨f, g, h⟩⟩, fun h => ?_⟩
        rcases h with h | ⟨_, h | ⟨_, _, h⟩⟩
        · omega
        · omega
        · exact h
    · rw [if_neg (by rw [decide_eq_false f]; exact Bool.false_ne_true), decide_eq_true_iff]
      refine ⟨fun h => .inr ⟨e, .inl h⟩, fun h => ?_⟩
      rcases h with h | ⟨_, h | ⟨h, _⟩⟩
      · omega
      · exact h
      · exact absurd h f
  · rw [if_neg (by rw [decide_eq_false e]; exact Bool.false_ne_true), decide_eq_true_iff]
    refine ⟨.inl, fun h => ?_⟩
    rcases h with h | ⟨h, _⟩
    · exact h
    · exact absurd h e
theorem rk3_irr (p : Int × Int × List Int) : rk3 p p = false := by
  cases h : rk3 p p with
  | false => rfl
  | true =>
    rcases rk3_iff.mp h with h | ⟨_, h | ⟨_, h, _⟩⟩
    · omega
    · omega
    · exact absurd rfl h
theorem rk3_tr {p q r : Int × Int × List Int} (h : rk3 p q = true) (k : rk3 q r = true) : rk3 p r = true := by
  rw [rk3_iff] at h k ⊢
  rcases h with h | ⟨h0, h | ⟨h1, _, h2⟩⟩
  · rcases k with k | ⟨k0, _⟩ <;> exact .inl (by omega)
  · rcases k with k | ⟨k0, k | ⟨k1, _⟩⟩
    · exact .inl (by omega)
    · exact .inr ⟨by omega, .inl (by omega)⟩
    · exact .inr ⟨by omega, .inl (by omega)⟩
  · rcases k with k | ⟨k0, k | ⟨k1, _, k2⟩⟩
    · exact .inl (by omega)
    · exact .inr ⟨by omega, .inl (by omega)⟩
    · have t := lexLt_tr h2 k2
      exact .inr ⟨by omega, .inr ⟨by omega, (fun z => by rw [z, lexLt_irr] at t; cases t), t⟩⟩
end L2
namespace L2
open PySem PySem.Spec PyProof.Rows
def ItzL (K : PySem.W.Frag) (a b : Addr) : It :=
  ⟨fun i H => ∃ xs ys x y, SqL K H a xs ∧ SqL K H b ys ∧ xs[i]? = some x ∧ ys[i]? = some y,
   fun i H v H' => ∃ T x y, v = .ref T ∧ H T = none ∧ H' = upd H T (.tup [x, y]) ∧ (∀ xs, SqL K H a xs → xs[i]? = some x) ∧ ∀ ys, SqL K H b ys → ys[i]? = some y,
   fun i H => ∃ xs ys, SqL K H a xs ∧ SqL K H b ys ∧ (xs.length ≤ i ∨ ys.length ≤ i)⟩
theorem turn_zipL {P : Program} {w : World} {K : PySem.W.Frag} {elts : List Expr} {x1} {tp : Pos} (a b z TI TO i1 i2 : Addr) (D : ZipApart z TI TO i1 i2 a b) :
    Turn P w K (.Tuple elts x1 tp) (ItzL K a b) [z, TI, TO, i1, i2] z (fun i h => IsZip h z TI TO .none ∧ IsPair h TI (.ref i1) (.ref i2) ∧ (∃ u v, IsPair h TO u v) ∧ h.IsListIter i1 a i ∧ h.IsListIter i2 b i) where
  mem := by simp
  obj := fun i h st c hc => by
    obtain ⟨hz, hTI, ⟨u, v, hTO⟩, ⟨o1, e1, _, d1⟩, ⟨o2, e2, _, d2⟩⟩ := st
    simp only [List.mem_cons, List.not_mem_nil, or_false] at hc
    rcases hc with q | q | q | q | q <;> subst q
    · exact ⟨_, hz, fun v q => by cases (show Data.fields _ = Data.cell v from q)⟩
    · exact ⟨_, hTI, fun v q => by cases (show Data.seq _ _ = Data.cell v from q)⟩
    · exact ⟨_, hTO, fun v q => by cases (show Data.seq _ _ = Data.cell v from q)⟩
    · exact ⟨o1, e1, fun v q => by rw [d1] at q; cases q⟩
    · exact ⟨o2, e2, fun v q => by rw [d2] at q; cases q⟩
  keep := fun i h h' st k => ⟨k z (by simp) _ st.1, k TI (by simp) _ st.2.1, let ⟨u, v, e⟩ := st.2.2.1; ⟨u, v, k TO (by simp) _ e⟩, st.2.2.2.1.at fun o q => k i1 (by simp) o q, st.2.2.2.2.at fun o q => k i2 (by simp) o q⟩
  item := by
    intro X hP hw hK hc i pins s σ H E I hf st hg
    subst hP hw hK
    obtain ⟨xs, ys, x, y, hq1, hq2, hx, hy⟩ := hg
    obtain ⟨its1, rv1, p1, _⟩ := I.list hq1
    obtain ⟨its2, rv2, p2, _⟩ := I.list hq2
    obtain ⟨u1, hu1, ru1⟩ := rv1.get hx
    obtain ⟨u2, hu2, ru2⟩ := rv2.get hy
    obtain ⟨hz, hTI, ⟨ua, ub, hTO⟩, h1, h2⟩ := st
    have lt : ∀ {c : Addr} {o : Obj}, s.heap.get? c = some o → c < s.heap.objs.size := fun e => Heap.lt_size e
    have lz := lt hz
    refine wpAny_pyNext_zip_item D hz hTI hTO h1 h2 p1.isList p2.isList (x := u1) (y := u2) (by simpa using hu1) (by simpa using hu2) fun h' hz' hTO' h1' h2' hT hsz hk => ?_
    refine ⟨.ref s.heap.objs.size, rfl, wpAny_letOwnedTupleGo_zip hz' fun hp2 hz2 sb => ?_⟩
    have hT2 : IsPair hp2 s.heap.objs.size u1 u2 := (sb.2 _ (Nat.ne_of_gt lz)).trans hT
    have I2 : Inv X pins σ (upd H s.heap.objs.size (.tup [x, y])) { s with heap := hp2 } := by
      refine I.turnedNew (t' := s.toks) (fp := [z, TI, TO, i1, i2]) (fun c ob hb q => ?_) hf (Nat.le_refl _) ⟨two_le, [u1, u2], .cons ru1 (.cons ru2 .nil), ⟨_, hT2, rfl, _, rfl⟩⟩
      simp only [List.mem_cons, List.not_mem_nil, or_false, not_or] at hb
      exact (sb.2 c hb.1).trans (hk c ob hb.1 hb.2.2.1 hb.2.2.2.1 hb.2.2.2.2 q)
    refine ⟨.ref s.heap.objs.size, _, I2, rfl, ⟨s.heap.objs.size, x, y, rfl, I.hok.fresh (Nat.le_refl _), rfl, fun zs hy => by rw [I.list_inj hy hq1]; exact hx, fun zs hz => by rw [I.list_inj hz hq2]; exact hy⟩, ⟨hz2, (sb.2 _ D.TIz).trans (hk _ _ D.TIz D.TITO D.TIi1 D.TIi2 hTI), ⟨_, _, (sb.2 _ D.TOz).trans hTO'⟩, h1'.at fun o q => (sb.2 _ D.i1z).trans q, h2'.at fun o q => (sb.2 _ D.i2z).trans q⟩, fun c hb => ?_⟩
    have lc : c < s.heap.objs.size := by
      obtain ⟨o1, e1, _⟩ := h1
      obtain ⟨o2, e2, _⟩ := h2
      simp only [List.mem_cons, List.not_mem_nil, or_false] at hb
      rcases hb with q | q | q | q | q <;> subst q
      · exact lz
      · exact lt hTI
      · exact lt hTO
      · exact lt e1
      · exact lt e2
    rw [upd_ne (Nat.ne_of_lt lc)]
    exact (hf c hb).1
  done := by
    intro X hP hw hK hc i pins s σ H E I hf st hg
    subst hP hw hK
    obtain ⟨xs, ys, hq1, hq2, hx⟩ := hg
    obtain ⟨its1, rv1, p1, _⟩ := I.list hq1
    obtain ⟨its2, rv2, p2, _⟩ := I.list hq2
    obtain ⟨hz, hTI, ⟨ua, ub, hTO⟩, h1, h2⟩ := st
    have l1 := rv1.length
    have l2 := rv2.length
    have hend : its1.toArray[i]? = none ∨ its2.toArray[i]? = none := by
      rcases hx with h | h
      · exact .inl (Array.getElem?_eq_none (by rw [List.size_toArray]; omega))
      · exact .inr (Array.getElem?_eq_none (by rw [List.size_toArray]; omega))
    refine wpAny_pyNext_zip_end (I.ok.hd hc) D hz hTI hTO h1 h2 p1.isList p2.isList hend fun h' hk => ⟨rfl, I.turnedL (t' := s.toks) (fp := [z, TI, TO, i1, i2]) (fun c o hb q => ?_) hf⟩
    simp only [List.mem_cons, List.not_mem_nil, or_false, not_or] at hb
    exact hk c o hb.1 hb.2.2.1 hb.2.2.2.1 hb.2.2.2.2 q
  self := fun _ _ _ _ _ st h => wpAny_pyIter_zip st.1 h
section
variable {X : Cx}
def iZipL (K : PySem.W.Frag) (ta tb : TE) : TI := fun σ H R => ta σ H fun x H1 => tb σ H1 fun y H2 => ∃ a b, x = .ref a ∧ y = .ref b ∧ (∃ xs, SqL K H2 a xs) ∧ (∃ ys, SqL K H2 b ys) ∧ R (ItzL K a b) H2
theorem pi_zipL {elts : List Expr} {x1} {tp : Pos} {e1 e2 : Expr} {ta tb : TE} {p pos : Pos} (hg : Gl X "zip") (hm : X.mg "zip" = none) (h1 : PE X e1 ta) (h2 : PE X e2 tb)
    (s2 : starEach [e1, e2] X.env = [(false, eval e1 X.env), (false, eval e2 X.env)] := by rfl) (s3 : starEach [e2] X.env = [(false, eval e2 X.env)] := by rfl) :
    PI X (.Tuple elts x1 tp) (.Call (.Name "zip" p) [e1, e2] [] pos) (iZipL X.K ta tb) := by
  intro pins s σ H R I h
  refine wpAny_Call_Name_kw (ld_blt I hg hm PyProof.Rows.boot_zip (PyProof.Rows.callWith_type1 ?_ (by rw [s2, s3]) (by rw [s3]; rfl)))
  refine thn (pa_cons h1 (pa_cons h2 pa_nil s3) (by rw [s2, s3]) pos pins s σ H (fun vs H2 => match vs with | [x, y] => ∃ a b, x = .ref a ∧ y = .ref b ∧ (∃ xs, SqL X.K H2 a xs) ∧ (∃ ys, SqL X.K H2 b ys) ∧ R (ItzL X.K a b) H2 | _ => False) I h) fun us s1 ⟨vs, H1, I1, r1, q⟩ => ?_
  rcases vs with _ | ⟨x, _ | ⟨y, _ | ⟨_, _⟩⟩⟩
  · exact False.elim q
  · exact False.elim q
  · obtain ⟨a, b, e1, e2, ⟨xs, hq1⟩, ⟨ys, hq2⟩, q⟩ := q
    subst e1; subst e2
    obtain ⟨u1, u2, rfl, ru1, ru2⟩ := vals2 r1
    cases ru1
    cases ru2
    obtain ⟨its1, rv1, p1, _⟩ := I1.list hq1
    obtain ⟨its2, rv2, p2, _⟩ := I1.list hq2
    have a1 : a < s1.heap.objs.size := by obtain ⟨_, e, _⟩ := p1.isList; exact Heap.lt_size e
    have a2 : b < s1.heap.objs.size := by obtain ⟨_, e, _⟩ := p2.isList; exact Heap.lt_size e
    refine call_zip_2 p1.isList p2.isList fun h' hz hTI hTO hi1 hi2 _ hk => ?_
    have I2 : Inv X pins σ H1 { s1 with heap := h' } := I1.kept (t' := s1.toks) hk
    refine wpAny_pyIter_zip (s := { s1 with heap := h' }) hz ?_
    refine ⟨s1.heap.objs.size + 4, [s1.heap.objs.size + 4, s1.heap.objs.size + 2, s1.heap.objs.size + 3, s1.heap.objs.size, s1.heap.objs.size + 1], _, _, H1, rfl, I2, turn_zipL a b _ _ _ _ _ (PyProof.Rows.zipApart_new a1 a2), ⟨hz, hTI, ⟨_, _, hTO⟩, hi1, hi2⟩, fun c hc => ?_, q⟩
    have hb' : s1.heap.objs.size ≤ c := by
      simp only [List.mem_cons, List.not_mem_nil, or_false] at hc
      rcases hc with q | q | q | q | q <;> subst q <;> first | exact Nat.le_refl _ | exact Nat.le_add_right _ _
    exact I1.fpOk hb' (I1.hok.fresh hb')
  · exact False.elim q
end
/-- [elt for x, y in zip(l, m)], l and m lists of one length -/
theorem comp2_zip {α γ : Type} {K : PySem.W.Frag} {js : List Nat} {te : TE} {σ : St} {H : Hp} {Fin : Addr → Hp → Prop} {a b : Addr} (cs : List α) (fs sn : α → V) (f : α → γ) (R2 : Hp → V → γ → Prop)
    (mono2 : ∀ H1 H2 v c, TupKeep H1 H2 → R2 H1 v c → R2 H2 v c)
    (hS : SqL K H a (cs.map fs)) (hS2 : SqL K H b (cs.map sn))
    (he : ∀ c H', c ∈ cs → Same H H' → ∀ Q2 : VK, (∀ y H4, Same H' H4 → R2 H4 y (f c) → Q2 y H4) → te (blkSt2 js σ (some (fs c)) (some (sn c))) H' Q2)
    (hn : cs.length ≤ sizeLine)
    (hd : ∀ D us H', H D = none → Same H H' → H' D = some (.lst us) → Paired (R2 H') us (cs.map f) → Fin D H') : CompBy2 K js te σ (ItzL K a b) H Fin := by
  intro D hD
  let Pv : Nat → List V → Hp → Prop := fun i ys H' => Same H H' ∧ H' D = some (.lst ys) ∧ Paired (R2 H') ys ((cs.take i).map f)
  refine ⟨fun i m ys H' => m = cs.length - i ∧ i ≤ cs.length ∧ Pv i ys H', ⟨cs.length, by simp, Nat.zero_le _, Same.new hD, upd_same, by rw [List.take_zero]; exact .nil⟩, ?_⟩
  rintro i m ys H' ⟨rfl, hi, sm, hL, ey⟩
  refine ⟨hL, ?_⟩
  have hS' := sm.seq hS
  have hS2' := sm.seq hS2
  by_cases hlt : i < cs.length
  · have hc : cs[i]? = some cs[i] := by simp [hlt]
    have g1 : (cs.map fs)[i]? = some (fs cs[i]) := by rw [List.getElem?_map, hc]; rfl
    have g2 : (cs.map sn)[i]? = some (sn cs[i]) := by rw [List.getElem?_map, hc]; rfl
    refine .inr ⟨⟨_, _, _, _, hS', hS2', g1, g2⟩, Pv (i + 1), fun zs H'' p' => ⟨cs.length - (i + 1), by omega, rfl, hlt, p'⟩, fun v H2 y => ?_⟩
    obtain ⟨T, x, z, rfl, hT, rfl, y1, y2⟩ := y
    have e1 : x = fs cs[i] := by
      have := y1 _ hS'
      rw [g1] at this
      exact (Option.some.inj this).symm
    have e2 : z = sn cs[i] := by
      have := y2 _ hS2'
      rw [g2] at this
      exact (Option.some.inj this).symm
    subst e1 e2
    have sT := Same.new (o := .tup [fs cs[i], sn cs[i]]) hT
    refine ⟨T, _, _, rfl, SqT.of upd_same, he cs[i] _ (List.getElem_mem hlt) (sm.trans sT) _ fun y H4 s4 r4 => ?_⟩
    have hL4 : H4 D = some (.lst ys) := s4 _ _ (sT _ _ hL)
    have hyl : ys.length ≤ i := by
      have e := prd_len ey
      rw [List.length_map, List.length_take] at e
      omega
    have tk : TupKeep H4 (upd H4 D (.lst (ys ++ [y]))) := TupKeep.upd fun xs z => by rw [hL4] at z; cases z
    refine ⟨hL4, by omega, ((sm.trans sT).trans s4).upd hD, upd_same, ?_⟩
    have htake : cs.take (i + 1) = cs.take i ++ [cs[i]] := by rw [List.take_add_one, hc]; rfl
    rw [htake, List.map_append]
    exact prd_append (prd_imp (fun x c r => mono2 _ _ _ _ ((sT.trans s4).tk.trans tk) r) ey) (.cons (mono2 _ _ _ _ tk r4) .nil)
  · have e : i = cs.length := by omega
    subst e
    rw [List.take_length] at ey
    exact .inl ⟨⟨_, _, hS', hS2', .inl (by rw [List.length_map]; omega)⟩, hd D ys H' hD sm hL ey⟩
theorem comp2_zipI {α : Type} {K : PySem.W.Frag} {js : List Nat} {te : TE} {σ : St} {H : Hp} {Fin : Addr → Hp → Prop} {a b : Addr} (cs : List α) (fs sn : α → V) (f : α → Int)
    (hS : SqL K H a (cs.map fs)) (hS2 : SqL K H b (cs.map sn))
    (he : ∀ c H', c ∈ cs → Same H H' → ∀ Q2 : VK, (∀ H4, Same H' H4 → Q2 (.int (f c)) H4) → te (blkSt2 js σ (some (fs c)) (some (sn c))) H' Q2)
    (hn : cs.length ≤ sizeLine)
    (hd : ∀ D H', H D = none → Same H H' → H' D = some (.lst ((cs.map f).map V.int)) → Fin D H') : CompBy2 K js te σ (ItzL K a b) H Fin :=
  comp2_zip cs fs sn f (fun _ v c => v = .int c) (fun _ _ _ _ _ r => r) hS hS2 (fun c H' hc s Q2 h => he c H' hc s Q2 fun H4 s4 => h _ H4 s4 rfl) hn
    fun D us H' h0 s hL pr2 => hd D H' h0 s (by rw [hL, prd_map pr2])
end L2
namespace L2
open PySem PySem.Spec PyProof.Rows
def KPair (H : Hp) (v : V) (p : Key × V) : Prop := ∃ r, v = .ref r ∧ H r = some (.tup [kV p.1, p.2])
theorem KPair.mono {H1 H2 : Hp} {v : V} {p : Key × V} (t : TupKeep H1 H2) (r : KPair H1 v p) : KPair H2 v p := let ⟨q, e, h⟩ := r; ⟨q, e, t _ _ h⟩
theorem pairs_kk {X : Cx} {pins : List (Addr × Obj)} {σ : St} {H : Hp} {s : Shared} (I : Inv X pins σ H s) : ∀ {ws : List V} {its : List Value} {ps : List (Key × V)}, Vals ws its → Paired (KPair H) ws ps →
    ∃ ks : List (Key × Value), KV ps ks ∧ its.length = ks.length ∧ ∀ (j : Nat) (k : Key) (v : Value), ks[j]? = some (k, v) → ∃ p key, its[j]? = some (.ref p) ∧ s.heap.IsTuple p #[key, v] ∧ (mixKind X.prog X.w).is k key = true
  | _, _, _, .nil, .nil => ⟨[], .nil, rfl, fun j k v h => by simp at h⟩
  | _, _, _, .cons ru ru', .cons (b := q) r t => by
    obtain ⟨ks, h1, h2, h3⟩ := pairs_kk I ru' t
    obtain ⟨p, e, hp⟩ := r
    subst e
    obtain rfl := (show _ = Value.ref p from ru)
    obtain ⟨_, its2, rv, o, g1, g2, n, g3⟩ := (show ObjOk X.prog X.w H s.heap p (.tup [kV q.1, q.2]) from I.hok p _ hp)
    cases rv with
    | cons ra rv =>
      cases rv with
      | cons rb rv =>
        cases rv
        refine ⟨(q.1, _) :: ks, .cons ⟨rfl, rb⟩ h1, by rw [List.length_cons, List.length_cons, h2], fun j k v h => ?_⟩
        cases j with
        | zero =>
          obtain ⟨rfl, rfl⟩ := Prod.mk.inj (Option.some.inj h)
          exact ⟨p, _, rfl, ⟨o, g1, g2, n, g3⟩, key_is (k := q.1) ra⟩
        | succ j => exact h3 j k v h
def rDictKK : List V → Hp → VK → Prop := fun xs H Q => ∃ l ws ps, xs = [.ref l] ∧ H l = some (.lst ws) ∧ Paired (KPair H) ws ps ∧ ps.length ≤ 1000 ∧ (ps.map (·.1)).Nodup ∧ ∀ d H', Same H H' → H d = none → H' d = some (.dK ps) → Q (.ref d) H'
theorem call_dictKK {X : Cx} (hc : X.calm = true) : CallR X (.type "dict") rDictKK := by
  intro pins s σ H xs us Q I r h
  obtain ⟨l, ws, ps, rfl, hl, pr, hz, nd, q⟩ := h
  obtain ⟨u, rfl, ru⟩ := vals1 r
  cases ru
  obtain ⟨z, its, n, rv, hlen, e⟩ := I.lstM hl
  obtain ⟨ks, k1, k2, k3⟩ := pairs_kk I rv pr
  have lk := prd_len k1
  have ek : ks.map (·.1) = ps.map (·.1) := by
    have gen : ∀ {a : List (Key × V)} {b : List (Key × Value)}, KV a b → b.map (·.1) = a.map (·.1) := by
      intro a b r
      induction r with
      | nil => rfl
      | cons r _ ih => rw [List.map_cons, List.map_cons, ih, r.1]
    exact gen k1
  have ndk : ((([] : List (Key × Value)) ++ ks).map (·.1)).Nodup := by rw [List.nil_append, ek]; exact nd
  refine call_dict_list (knd := mixKind X.prog X.w) (items := its.toArray) (ks := ks) (I.ok.hd hc) (by omega) e ⟨by simpa using k2, fun j k v h => by simpa using k3 j k v h⟩ fun h' tk dd kp => ?_
  rw [stored_all ndk, List.nil_append] at dd
  have big : sysModules < s.heap.objs.size := Nat.lt_trans (by decide) (show mainGlobals < s.heap.objs.size from (I.mod.glob.keeps I.bk).lt)
  have fr := I.hok.fresh (Nat.le_refl s.heap.objs.size)
  exact ⟨.ref s.heap.objs.size, _, I.laid (t' := tk) (o := .dK ps) kp (Nat.le_refl _) ⟨Nat.le_trans hz (by decide), beq_eq_false_iff_ne.mpr (Ne.symm (Nat.ne_of_lt big)), ks, k1, dd⟩, rfl, q _ _ (Same.new fr) fr upd_same⟩
end L2
namespace STab
open PySem PyProof.Rows
section
variable {prog : Program} {w : World} {A : Around} {E : Value → Shared → Prop} {s : Shared} {l : Addr} {xs : Array (Int × Tok)}
/-- sum(t), t a tuple of ints -/
theorem sum_intTupG {Q : Value → Shared → Prop} (hh : A.handled = none) (hl : s.heap.IsTuple l (intItems xs))
    (h : ∀ h' tk t', (∀ b o, s.heap.get? b = some o → h'.get? b = some o) → Q (.int (preSum (numAt xs) xs.size) t') { s with heap := h', toks := tk }) :
    wpAny (model prog w) A (call (.builtin "sum") [.ref l]) Q E s := by
  have hlt : l < s.heap.objs.size := by obtain ⟨_, e, _⟩ := hl; exact Heap.lt_size e
  refine call_sum_walkG (wpAny_pyIter_tuple hl ?_)
  refine ⟨_, _, _, _, _, _, numAt xs, rfl, Walks.tuple (A := A.in1) hh s.heap.objs.size l (Nat.ne_of_lt hlt) (intItems xs), ⟨⟨_, Heap.get?_push_size _ rfl, rfl, rfl⟩, hl.at fun o e => Heap.get?_push_of_some _ e⟩, (fun b hb => ?_), (fun _ _ => intItems_at), fun h' tk t' hk => ?_⟩
  · rw [Heap.size_push]
    rcases List.mem_cons.mp hb with z | z
    · rw [z]; exact Nat.lt_succ_self _
    · rw [List.mem_singleton.mp z]; exact Nat.lt_succ_of_lt hlt
  · have := h h' tk t' fun b o e => hk b o (fun hm => by
      have e1 : b = s.heap.objs.size := by simpa using hm
      exact absurd (e1 ▸ Heap.lt_size e) (Nat.lt_irrefl _)) (Heap.get?_push_of_some _ e)
    simpa [intItems] using this
end
end STab
namespace L2
open PySem PySem.Spec PyProof.Rows
section
variable {X : Cx}
theorem call_sumT (hc : X.calm = true) : CallR X (.builtin "sum") (fun xs H Q => ∃ (p : Addr) (ns : List Int), xs = [.ref p] ∧ SqT X.K H p (ns.map V.int) ∧ Q (.int ns.sum) H) := by
  intro pins s σ H xs us Q I r h
  obtain ⟨p, ns, rfl, hq, q⟩ := h
  obtain ⟨u, rfl, ru⟩ := vals1 r
  cases ru
  obtain ⟨its, rv, pl, hz⟩ := I.tuple hq
  have hi : IntsAre its ns := intsAre_of rv
  obtain ⟨xs, ex⟩ := hi.allInts.items
  have hl : s.heap.IsTuple p its.toArray := pl
  rw [ex] at hl
  refine STab.sum_intTupG (I.ok.hd hc) hl fun h' tk t' k => ⟨.int ns.sum, H, I.kept k, ⟨t', ?_⟩, q⟩
  have e1 : xs.toList.map (·.1) = ns := by rw [← nums_intItems, ← ex, ← hi.numsOf]
  rw [preSum_eq, List.take_of_length_le (by simp), e1]
end
end L2
local macro_rules | `(tactic| walk_at "rq") => `(tactic| first | assumption | exact L2.SqL.of (by assumption) | exact L2.SqT.of (by assumption) | exact L2.Same.seq (by assumption) (by assumption) | exact L2.Same.seqT (by assumption) (by assumption))
local macro_rules | `(tactic| walk_at "rs") => `(tactic| first | decide | (dsimp only; omega) | assumption | exact My.flat_ints _ | exact My.plain_ints _ | exact ⟨by decide, by decide⟩ | exact ⟨by omega, by omega⟩ | exact .inl ⟨by decide, by decide⟩ | exact .inr ⟨by decide, by decide⟩ | exact .inl ⟨by omega, by omega⟩ | exact .inr ⟨by omega, by omega⟩)
local macro_rules | `(tactic| walk_at "r1") => `(tactic| first | refine ⟨_, rfl, ?_⟩ | refine ⟨_, _, rfl, rfl, ?_⟩ | refine ⟨rfl, ?_⟩ | refine ⟨by walk_at "rs", ?_⟩ | refine ⟨_, _, rfl, .inl (by walk_at "rq"), ?_⟩ | refine ⟨_, _, rfl, .inr (by walk_at "rq"), ?_⟩ | refine ⟨_, _, _, _, rfl, rfl, by walk_at "rq", by first | assumption | rfl, ?_⟩)
local macro_rules | `(tactic| walk_at "rd") => `(tactic| repeat walk_at "r1")
namespace My
open PySem L2
def top (i : Nat) : Stmt := PySem.Challenge.pw_tonemirror_k34_least.main.body.getD i (.Pass ⟨0, 0, 0, 0⟩)

def mv (n a b : Int) : Int := if 2 * ((b - a) % n) ≤ n then (b - a) % n else (b - a) % n - n
theorem sq2 (x : Int) : x ^ 2 = x * x := by rw [Int.pow_succ, Int.pow_succ, Int.pow_zero, Int.one_mul]
theorem mv_b {n : Int} (hn : 0 < n) (a b : Int) : -n < 2 * mv n a b ∧ 2 * mv n a b ≤ n := by
  have l := mod_lo (b - a) hn
  have u := mod_hi (b - a) hn
  unfold mv
  split <;> omega
theorem dist_mv {n : Int} (hn : 0 < n) (a b : Int) : dist n a b = (if mv n a b < 0 then -mv n a b else mv n a b) := by
  have l := mod_lo (b - a) hn
  have u := mod_hi (b - a) hn
  have bk := back_of' a b hn
  unfold dist mv
  generalize (b - a) % n = x at *
  generalize (a - b) % n = y at *
  have h : (x = 0 ∧ y = 0) ∨ (x ≠ 0 ∧ y = n - x) := by
    rw [bk]
    split
    · next z => exact .inl ⟨z, rfl⟩
    · next z => exact .inr ⟨z, rfl⟩
  split <;> split <;> split <;> omega
/-- a value that is the tuple of these two ints -/
def LdR (H : Hp) (v : V) (c : Int × Int) : Prop := ∃ p, v = .ref p ∧ H p = some (.tup [V.int c.1, V.int c.2])
theorem LdR.mono {H1 H2 : Hp} {v : V} {c : Int × Int} (t : TupKeep H1 H2) (r : LdR H1 v c) : LdR H2 v c := let ⟨p, e, h⟩ := r; ⟨p, e, t _ _ h⟩
theorem ld_same {H H' : Hp} (s : Same H H') {ws : List V} {ps : List (Int × Int)} (p : Paired (LdR H) ws ps) : Paired (LdR H') ws ps := prd_imp (fun _ _ r => r.mono s.tk) p
/-- a leading of the wheel -/
structure LdOk (n : Int) (ps : List (Int × Int)) : Prop where
  up : (ps.map (·.1)).Pairwise (· < ·)
  b1 : ∀ c ∈ ps, 0 ≤ c.1 ∧ c.1 < n
  b2 : ∀ c ∈ ps, 0 ≤ c.2 ∧ c.2 < n
  nd : (ps.map (·.2)).Nodup
/-- how far apart the ends of two pairs are, as the program reckons it, and as the law does -/
def apt (n : Int) (c d : Int × Int) : Int := (d.1 - c.1) % n + mv n d.1 d.2 - mv n c.1 c.2
def aptL (n : Int) (c d : Int × Int) : Int := d.1 - c.1 + mv n d.1 d.2 - mv n c.1 c.2
def crs (n : Int) (c d : Int × Int) : Bool := decide (apt n c d < 0) || decide (apt n c d > n)
def crsL (n : Int) (c d : Int × Int) : Bool := decide (aptL n c d < 0) || decide (aptL n c d > n)
/-- the crossings of the i-th pair with those behind it -/
def cxr (g : Int × Int → Int × Int → Bool) (ps : List (Int × Int)) (i : Nat) : List (Int × Int) := ((rngL ((i : Int) + 1) (ps.length : Int)).filter fun j => g (ps.getD i (0, 0)) (ps.getD j.toNat (0, 0))).map fun j => ((i : Int), j)
def cxU (g : Int × Int → Int × Int → Bool) (ps : List (Int × Int)) (k : Nat) : List (Int × Int) := (List.range k).flatMap (cxr g ps)
def cxs (g : Int × Int → Int × Int → Bool) (ps : List (Int × Int)) : List (Int × Int) := cxU g ps ps.length
theorem cxU_succ (g : Int × Int → Int × Int → Bool) (ps : List (Int × Int)) (k : Nat) : cxU g ps (k + 1) = cxU g ps k ++ cxr g ps k := by
  unfold cxU
  rw [List.range_succ, List.flatMap_append]
  simp
theorem rngL_mem {lo hi x : Int} : x ∈ rngL lo hi ↔ lo ≤ x ∧ x < hi := by
  unfold rngL
  rw [List.mem_map]
  constructor
  · rintro ⟨i, hi, rfl⟩
    have := List.mem_range.mp hi
    omega
  · intro h
    exact ⟨(x - lo).toNat, List.mem_range.mpr (by omega), by omega⟩
theorem rngL_len (lo hi : Int) : (rngL lo hi).length = (hi - lo).toNat := by simp [rngL]
theorem cxr_len (g : Int × Int → Int × Int → Bool) (ps : List (Int × Int)) (i : Nat) : (cxr g ps i).length ≤ ps.length := by
  unfold cxr
  rw [List.length_map]
  refine Nat.le_trans (List.length_filter_le _ _) ?_
  rw [rngL_len]; omega
theorem cxU_len (g : Int × Int → Int × Int → Bool) (ps : List (Int × Int)) (k : Nat) : (cxU g ps k).length ≤ ps.length * k := by
  induction k with
  | zero => exact Nat.le_of_eq rfl
  | succ k ih =>
    rw [cxU_succ, List.length_append, Nat.mul_succ]
    have := cxr_len g ps k
    omega
theorem apt_eq {n : Int} {c d : Int × Int} (h0 : 0 ≤ c.1) (h : c.1 < d.1) (h1 : d.1 < n) : apt n c d = aptL n c d := by
  unfold apt aptL
  rw [Int.emod_eq_of_lt (by omega) (by omega)]
theorem cxs_eq {n : Int} {ps : List (Int × Int)} (ok : LdOk n ps) : cxs (crs n) ps = cxs (crsL n) ps := by
  unfold cxs cxU
  have key : ∀ i ∈ List.range ps.length, cxr (crs n) ps i = cxr (crsL n) ps i := by
    intro i hi
    have hi := List.mem_range.mp hi
    unfold cxr
    congr 1
    refine List.filter_congr fun j hj => ?_
    have hj := rngL_mem.mp hj
    have j1 : j.toNat < ps.length := by omega
    have e1 : ps.getD i (0, 0) = ps[i] := by rw [List.getD_eq_getElem?_getD, List.getElem?_eq_getElem hi]; rfl
    have e2 : ps.getD j.toNat (0, 0) = ps[j.toNat] := by rw [List.getD_eq_getElem?_getD, List.getElem?_eq_getElem j1]; rfl
    rw [e1, e2]
    have lt : ps[i].1 < ps[j.toNat].1 := by
      have := List.pairwise_iff_getElem.mp ok.up i j.toNat (by rw [List.length_map]; exact hi) (by rw [List.length_map]; exact j1) (by omega)
      simpa using this
    unfold crs crsL
    rw [apt_eq (ok.b1 _ (List.getElem_mem hi)).1 lt (ok.b1 _ (List.getElem_mem j1)).2]
  simp only [List.flatMap_def]
  rw [List.map_congr_left key]

theorem mv_leads (n a b : Int) : ∃ k : Int, b - a = mv n a b + n * k := by
  have s := mod_split (b - a) n
  unfold mv
  split
  · exact ⟨(b - a) / n, by omega⟩
  · refine ⟨(b - a) / n + 1, ?_⟩
    rw [Int.mul_add, Int.mul_one]
    omega
/-- the move is the one of all that lead there which is small -/
theorem mv_uq {n : Int} (hn : 0 < n) {a b u : Int} (k : Int) (h : b - a = u + n * k) (h0 : -n < 2 * u) (h1 : 2 * u ≤ n) : mv n a b = u := by
  have e : (b - a) % n = u % n := emod_eq k (by omega)
  unfold mv
  rw [e]
  by_cases hu : 0 ≤ u
  · rw [Int.emod_eq_of_lt hu (by omega), if_pos h1]
  · have e2 : u % n = u + n := by
      rw [← Int.add_emod_right]
      exact Int.emod_eq_of_lt (by omega) (by omega)
    rw [e2, if_neg (by omega)]
    omega
def abI (x : Int) : Int := if x < 0 then -x else x
/-- two numbers between two others, with the same sum -/
theorem between_abs {u v x y : Int} (h : x + y = u + v) (h1 : v < x) (h2 : x < u) : abI x + abI y ≤ abI u + abI v := by
  unfold abI
  split <;> split <;> split <;> split <;> omega
theorem between_sq {u v x y : Int} (h : x + y = u + v) (h1 : v < x) (h2 : x < u) : x ^ 2 + y ^ 2 < u ^ 2 + v ^ 2 := by
  have ey : y = u + v - x := by omega
  subst ey
  have p : 0 < (u - x) * (x - v) := Int.mul_pos (by omega) (by omega)
  have e : u ^ 2 + v ^ 2 - (x ^ 2 + (u + v - x) ^ 2) = 2 * ((u - x) * (x - v)) := by
    simp only [Int.pow_succ, Int.pow_zero, Int.one_mul, Int.sub_mul, Int.mul_sub, Int.add_mul, Int.mul_add]
    have c1 := Int.mul_comm v u
    have c2 := Int.mul_comm x u
    have c3 := Int.mul_comm x v
    omega
  omega
theorem xch {n : Int} (hn : 0 < n) {c d : Int × Int} (h0 : 0 < d.1 - c.1) (h1 : d.1 - c.1 < n) (h : aptL n c d < 0 ∨ aptL n c d > n) :
    abI (mv n c.1 d.2) + abI (mv n d.1 c.2) ≤ abI (mv n c.1 c.2) + abI (mv n d.1 d.2) ∧ mv n c.1 d.2 ^ 2 + mv n d.1 c.2 ^ 2 < mv n c.1 c.2 ^ 2 + mv n d.1 d.2 ^ 2 := by
  obtain ⟨k, hk⟩ := mv_leads n c.1 c.2
  obtain ⟨j, hj⟩ := mv_leads n d.1 d.2
  have bu := mv_b hn c.1 c.2
  have bv := mv_b hn d.1 d.2
  have e0 : aptL n c d = d.1 - c.1 + mv n d.1 d.2 - mv n c.1 c.2 := rfl
  generalize mv n c.1 c.2 = u at *
  generalize mv n d.1 d.2 = v at *
  rcases h with h | h
  · have x1 : mv n c.1 d.2 = d.1 - c.1 + v := mv_uq hn j (by omega) (by omega) (by omega)
    have x2 : mv n d.1 c.2 = u - (d.1 - c.1) := mv_uq hn k (by omega) (by omega) (by omega)
    rw [x1, x2]
    exact ⟨between_abs (by omega) (by omega) (by omega), between_sq (by omega) (by omega) (by omega)⟩
  · have x1 : mv n c.1 d.2 = d.1 - c.1 + v - n := mv_uq hn (j + 1) (by rw [Int.mul_add, Int.mul_one]; omega) (by omega) (by omega)
    have x2 : mv n d.1 c.2 = u - (d.1 - c.1) + n := mv_uq hn (k - 1) (by rw [Int.mul_sub, Int.mul_one]; omega) (by omega) (by omega)
    rw [x1, x2]
    have a := between_abs (u := v) (v := u) (x := d.1 - c.1 + v - n) (y := u - (d.1 - c.1) + n) (by omega) (by omega) (by omega)
    have b := between_sq (u := v) (v := u) (x := d.1 - c.1 + v - n) (y := u - (d.1 - c.1) + n) (by omega) (by omega) (by omega)
    omega
/-- the leading with the second ones of two places exchanged -/
def xchg (ps : List (Int × Int)) (i j : Nat) : List (Int × Int) := (ps.set i ((ps.getD i (0, 0)).1, (ps.getD j (0, 0)).2)).set j ((ps.getD j (0, 0)).1, (ps.getD i (0, 0)).2)
theorem xchg_len (ps : List (Int × Int)) (i j : Nat) : (xchg ps i j).length = ps.length := by simp [xchg]
theorem set_sum (f : Int × Int → Int) : ∀ (ps : List (Int × Int)) (i : Nat) (x : Int × Int) (h : i < ps.length), ((ps.set i x).map f).sum = (ps.map f).sum - f ps[i] + f x
  | [], i, x, h => absurd h (Nat.not_lt_zero i)
  | p :: ps, 0, x, h => by
    simp only [List.set_cons_zero, List.map_cons, List.sum_cons, List.getElem_cons_zero]
    omega
  | p :: ps, i + 1, x, h => by
    have := set_sum f ps i x (Nat.lt_of_succ_lt_succ h)
    simp only [List.set_cons_succ, List.map_cons, List.sum_cons, List.getElem_cons_succ]
    omega
theorem getD_at {ps : List (Int × Int)} {i : Nat} (h : i < ps.length) : ps.getD i (0, 0) = ps[i] := by rw [List.getD_eq_getElem?_getD, List.getElem?_eq_getElem h]; rfl
theorem xchg_sum (f : Int × Int → Int) {ps : List (Int × Int)} {i j : Nat} (hij : i < j) (hj : j < ps.length) :
    ((xchg ps i j).map f).sum = (ps.map f).sum - f (ps[i]'(by omega)) - f ps[j] + f ((ps[i]'(by omega)).1, ps[j].2) + f (ps[j].1, (ps[i]'(by omega)).2) := by
  have hi : i < ps.length := by omega
  unfold xchg
  rw [getD_at hi, getD_at hj, set_sum f _ j _ (by rw [List.length_set]; exact hj), set_sum f ps i _ hi]
  have : (ps.set i (ps[i].1, ps[j].2))[j]'(by rw [List.length_set]; exact hj) = ps[j] := List.getElem_set_ne (by omega) _
  rw [this]
  omega
theorem xchg_fst {ps : List (Int × Int)} {i j : Nat} (hij : i < j) (hj : j < ps.length) : (xchg ps i j).map (·.1) = ps.map (·.1) := by
  have hi : i < ps.length := by omega
  unfold xchg
  rw [getD_at hi, getD_at hj, List.map_set, List.map_set]
  refine List.ext_getElem? fun k => ?_
  rw [List.getElem?_set, List.getElem?_set]
  split
  · next e => subst e; simp [hj]
  · split
    · next e => subst e; simp [hi]
    · rfl
theorem xchg_snd {ps : List (Int × Int)} {i j : Nat} (hij : i < j) (hj : j < ps.length) : ((xchg ps i j).map (·.2)).Perm (ps.map (·.2)) := by
  have hi : i < ps.length := by omega
  unfold xchg
  rw [getD_at hi, getD_at hj, List.map_set, List.map_set]
  generalize hl : ps.map (·.2) = l
  have li : i < l.length := by rw [← hl, List.length_map]; exact hi
  have lj : j < l.length := by rw [← hl, List.length_map]; exact hj
  have ei : ps[i].2 = l[i] := by subst hl; simp
  have ej : ps[j].2 = l[j] := by subst hl; simp
  show ((l.set i ps[j].2).set j ps[i].2).Perm l
  rw [ei, ej]
  exact List.set_set_perm li lj
theorem xchg_ok {n : Int} {ps : List (Int × Int)} (ok : LdOk n ps) {i j : Nat} (hij : i < j) (hj : j < ps.length) : LdOk n (xchg ps i j) := by
  have e1 := xchg_fst hij hj
  have e2 := xchg_snd hij hj
  refine ⟨by rw [e1]; exact ok.up, fun c hc => ?_, fun c hc => ?_, e2.nodup_iff.mpr ok.nd⟩
  · have : c.1 ∈ ps.map (·.1) := by rw [← e1]; exact List.mem_map_of_mem hc
    obtain ⟨d, hd, e⟩ := List.mem_map.mp this
    rw [← e]
    exact ok.b1 d hd
  · have : c.2 ∈ ps.map (·.2) := e2.mem_iff.mp (List.mem_map_of_mem hc)
    obtain ⟨d, hd, e⟩ := List.mem_map.mp this
    rw [← e]
    exact ok.b2 d hd
def sqs (n : Int) (ps : List (Int × Int)) : Int := (ps.map fun c => mv n c.1 c.2 ^ 2).sum
def cst (n : Int) (ps : List (Int × Int)) : Int := (ps.map fun c => dist n c.1 c.2).sum
theorem sum_nn {f : Int × Int → Int} (h : ∀ c, 0 ≤ f c) : ∀ ps : List (Int × Int), 0 ≤ (ps.map f).sum
  | [] => Int.le_refl _
  | p :: ps => by
    have := sum_nn h ps
    have := h p
    simp only [List.map_cons, List.sum_cons]
    omega
theorem sq_nn (x : Int) : 0 ≤ x ^ 2 := by
  rw [sq2]
  rcases Int.le_total 0 x with h | h
  · exact Int.mul_nonneg h h
  · exact Int.mul_nonneg_of_nonpos_of_nonpos h h
theorem sqs_nn (n : Int) (ps : List (Int × Int)) : 0 ≤ sqs n ps := sum_nn (fun _ => sq_nn _) ps
theorem cxs_mem {g : Int × Int → Int × Int → Bool} {ps : List (Int × Int)} {p : Int × Int} (h : p ∈ cxs g ps) : 0 ≤ p.1 ∧ p.1 < p.2 ∧ p.2 < (ps.length : Int) ∧ g (ps.getD p.1.toNat (0, 0)) (ps.getD p.2.toNat (0, 0)) = true := by
  unfold cxs cxU at h
  obtain ⟨i, hi, h⟩ := List.mem_flatMap.mp h
  unfold cxr at h
  obtain ⟨j, hj, rfl⟩ := List.mem_map.mp h
  have hj' := List.mem_filter.mp hj
  have hb := rngL_mem.mp hj'.1
  refine ⟨by show 0 ≤ (i : Int); omega, by show (i : Int) < j; omega, hb.2, ?_⟩
  show g (ps.getD ((i : Int)).toNat (0, 0)) (ps.getD j.toNat (0, 0)) = true
  rw [Int.toNat_natCast]
  exact hj'.2
/-- one step: exchanged at a crossing, the leading costs no more and has a lesser square -/
theorem step_less {n : Int} (hn : 0 < n) {ps : List (Int × Int)} (ok : LdOk n ps) {p : Int × Int} (h : p ∈ cxs (crs n) ps) :
    cst n (xchg ps p.1.toNat p.2.toNat) ≤ cst n ps ∧ sqs n (xchg ps p.1.toNat p.2.toNat) < sqs n ps := by
  rw [cxs_eq ok] at h
  obtain ⟨h0, h1, h2, h3⟩ := cxs_mem h
  have hij : p.1.toNat < p.2.toNat := by omega
  have hj : p.2.toNat < ps.length := by omega
  have hi : p.1.toNat < ps.length := by omega
  rw [getD_at hi, getD_at hj] at h3
  have lt : ps[p.1.toNat].1 < ps[p.2.toNat].1 := by
    have := List.pairwise_iff_getElem.mp ok.up p.1.toNat p.2.toNat (by rw [List.length_map]; exact hi) (by rw [List.length_map]; exact hj) hij
    simpa using this
  have b1 := ok.b1 _ (List.getElem_mem hi)
  have b2 := ok.b1 _ (List.getElem_mem hj)
  have hx : aptL n ps[p.1.toNat] ps[p.2.toNat] < 0 ∨ aptL n ps[p.1.toNat] ps[p.2.toNat] > n := by
    unfold crsL at h3
    rw [Bool.or_eq_true] at h3
    exact h3.imp of_decide_eq_true of_decide_eq_true
  obtain ⟨q1, q2⟩ := xch hn (by omega) (by omega) hx
  have ea : ∀ a b, abI (mv n a b) = dist n a b := fun a b => (dist_mv hn a b).symm
  rw [ea, ea, ea, ea] at q1
  unfold cst sqs
  rw [xchg_sum _ hij hj, xchg_sum _ hij hj]
  dsimp only
  constructor <;> omega
theorem split_at (t : Int) : ∀ {es : List Int}, es.Pairwise (· < ·) → es = es.filter (fun e => decide (e < t)) ++ es.filter (fun e => !decide (e < t))
  | [], _ => rfl
  | e :: es, h => by
    have h' := List.pairwise_cons.mp h
    by_cases he : e < t
    · rw [List.filter_cons_of_pos (by exact decide_eq_true he), List.filter_cons_of_neg (by rw [decide_eq_true he]; exact Bool.false_ne_true), List.cons_append, ← split_at t h'.2]
    · have all : ∀ x ∈ es, ¬ x < t := fun x hx z => he (Int.lt_trans (h'.1 x hx) z)
      have e1 : es.filter (fun e => decide (e < t)) = [] := List.filter_eq_nil_iff.mpr fun x hx z => all x hx (of_decide_eq_true z)
      have e2 : es.filter (fun e => !decide (e < t)) = es := List.filter_eq_self.mpr fun x hx => by rw [decide_eq_false (all x hx)]; rfl
      rw [List.filter_cons_of_neg (by rw [decide_eq_false he]; exact Bool.false_ne_true), List.filter_cons_of_pos (by rw [decide_eq_false he]; rfl), e1, e2]
      rfl
/-- numbers that rise within one lap: their rests are a rising list, begun at some place -/
theorem lap_rests {n : Int} (hn : 0 < n) {es : List Int} (h : es.Pairwise fun a b => a < b ∧ b < a + n) : ∃ A B : List Int, es.map (· % n) = A ++ B ∧ (B ++ A).Pairwise (· < ·) := by
  cases es with
  | nil => exact ⟨[], [], rfl, .nil⟩
  | cons e0 es =>
    have up : (e0 :: es).Pairwise (· < ·) := h.imp fun z => z.1
    have lo : ∀ x ∈ e0 :: es, e0 ≤ x ∧ x < e0 + n := fun x hx => by
      rcases List.mem_cons.mp hx with z | z
      · rw [z]; omega
      · have := (List.pairwise_cons.mp h).1 x z
        omega
    have ms := mod_split e0 n
    have m0 := mod_lo e0 hn
    have m1 := mod_hi e0 hn
    obtain ⟨q, hq⟩ : ∃ q, q = e0 / n := ⟨_, rfl⟩
    rw [← hq] at ms
    obtain ⟨t, ht⟩ : ∃ t, t = n * q + n := ⟨_, rfl⟩
    have r1 : ∀ x, e0 ≤ x → x < t → x % n = x - n * q := fun x a b => by
      rw [emod_eq (y := x - n * q) q (by omega)]
      exact Int.emod_eq_of_lt (by omega) (by omega)
    have r2 : ∀ x, t ≤ x → x < e0 + n → x % n = x - t := fun x a b => by
      rw [emod_eq (y := x - t) (q + 1) (by rw [Int.mul_add, Int.mul_one]; omega)]
      exact Int.emod_eq_of_lt (by omega) (by omega)
    have sp := split_at t up
    refine ⟨((e0 :: es).filter fun e => decide (e < t)).map (· % n), ((e0 :: es).filter fun e => !decide (e < t)).map (· % n), by rw [← List.map_append, ← sp], ?_⟩
    have inA : ∀ x ∈ (e0 :: es).filter (fun e => decide (e < t)), (e0 ≤ x ∧ x < e0 + n) ∧ x < t := fun x hx => ⟨lo x (List.mem_filter.mp hx).1, of_decide_eq_true (List.mem_filter.mp hx).2⟩
    have inB : ∀ x ∈ (e0 :: es).filter (fun e => !decide (e < t)), (e0 ≤ x ∧ x < e0 + n) ∧ t ≤ x := fun x hx => by
      refine ⟨lo x (List.mem_filter.mp hx).1, ?_⟩
      have := (List.mem_filter.mp hx).2
      rw [Bool.not_eq_true', decide_eq_false_iff_not] at this
      omega
    rw [List.pairwise_append]
    refine ⟨?_, ?_, ?_⟩
    · rw [List.pairwise_map]
      refine List.Pairwise.imp_of_mem (fun {a b} ha hb z => ?_) (up.sublist List.filter_sublist)
      have a1 := inB a ha
      have b1 := inB b hb
      rw [r2 a a1.2 a1.1.2, r2 b b1.2 b1.1.2]
      omega
    · rw [List.pairwise_map]
      refine List.Pairwise.imp_of_mem (fun {a b} ha hb z => ?_) (up.sublist List.filter_sublist)
      have a1 := inA a ha
      have b1 := inA b hb
      rw [r1 a a1.1.1 a1.2, r1 b b1.1.1 b1.2]
      omega
    · intro a ha b hb
      obtain ⟨x, hx, rfl⟩ := List.mem_map.mp ha
      obtain ⟨y, hy, rfl⟩ := List.mem_map.mp hb
      have a1 := inB x hx
      have b1 := inA y hy
      rw [r2 x a1.2 a1.1.2, r1 y b1.1.1 b1.2]
      omega
/-- where a pair ends, on the line -/
def endL (n : Int) (c : Int × Int) : Int := c.1 + mv n c.1 c.2
theorem endL_mod {n : Int} {c : Int × Int} (h0 : 0 ≤ c.2) (h1 : c.2 < n) : endL n c % n = c.2 := by
  obtain ⟨k, hk⟩ := mv_leads n c.1 c.2
  unfold endL
  rw [emod_eq (y := c.2) (-k) (by rw [Int.mul_neg]; omega)]
  exact Int.emod_eq_of_lt h0 h1
theorem cxs_none {g : Int × Int → Int × Int → Bool} {ps : List (Int × Int)} (h : cxs g ps = []) {i j : Nat} (hij : i < j) (hj : j < ps.length) : g (ps[i]'(by omega)) ps[j] = false := by
  have hi : i < ps.length := by omega
  cases q : g (ps[i]'hi) ps[j] with
  | false => rfl
  | true =>
    have : ((i : Int), (j : Int)) ∈ cxs g ps := by
      unfold cxs cxU
      refine List.mem_flatMap.mpr ⟨i, List.mem_range.mpr hi, ?_⟩
      unfold cxr
      refine List.mem_map.mpr ⟨(j : Int), List.mem_filter.mpr ⟨rngL_mem.mpr ⟨by omega, by omega⟩, ?_⟩, rfl⟩
      rw [Int.toNat_natCast, getD_at hi, getD_at hj]
      exact q
    rw [h] at this
    cases this
/-- without a crossing the second ones are a rising list, begun at some place -/
theorem no_cross_turned {n : Int} (hn : 0 < n) {ps : List (Int × Int)} (ok : LdOk n ps) (h : cxs (crsL n) ps = []) : ∃ A B : List Int, ps.map (·.2) = A ++ B ∧ (B ++ A).Pairwise (· < ·) := by
  have pw : (ps.map (endL n)).Pairwise fun a b => a < b ∧ b < a + n := by
    rw [List.pairwise_map, List.pairwise_iff_getElem]
    intro i j hi hj hij
    have c := cxs_none h hij hj
    unfold crsL at c
    rw [Bool.or_eq_false_iff, decide_eq_false_iff_not, decide_eq_false_iff_not] at c
    have ea : aptL n ps[i] ps[j] = endL n ps[j] - endL n ps[i] := by unfold aptL endL; omega
    have bi := ok.b2 _ (List.getElem_mem hi)
    have bj := ok.b2 _ (List.getElem_mem hj)
    have mi := endL_mod bi.1 bi.2
    have mj := endL_mod bj.1 bj.2
    have ne : ps[i].2 ≠ ps[j].2 := by
      have := List.pairwise_iff_getElem.mp ok.nd i j (by rw [List.length_map]; exact hi) (by rw [List.length_map]; exact hj) hij
      simpa using this
    have n0 : endL n ps[i] ≠ endL n ps[j] := fun e => ne (by rw [← mi, ← mj, e])
    have n1 : endL n ps[j] ≠ endL n ps[i] + n := fun e => ne (by rw [← mi, ← mj, e, Int.add_emod_right])
    omega
  obtain ⟨A, B, e, p⟩ := lap_rests hn pw
  refine ⟨A, B, ?_, p⟩
  rw [← e, List.map_map]
  exact List.map_congr_left fun c hc => (endL_mod (ok.b2 c hc).1 (ok.b2 c hc).2).symm
/-- every leading can be uncrossed -/
theorem uncross {n : Int} (hn : 0 < n) : ∀ (m : Nat) {ps : List (Int × Int)}, LdOk n ps → (sqs n ps).toNat = m →
    ∃ q, LdOk n q ∧ q.map (·.1) = ps.map (·.1) ∧ (q.map (·.2)).Perm (ps.map (·.2)) ∧ cxs (crsL n) q = [] ∧ cst n q ≤ cst n ps ∧ sqs n q ≤ sqs n ps ∧ (cxs (crsL n) ps ≠ [] → sqs n q < sqs n ps) := by
  intro m
  induction m using Nat.strongRecOn with
  | _ m ih =>
    intro ps ok hm
    cases hc : cxs (crsL n) ps with
    | nil => exact ⟨ps, ok, rfl, List.Perm.refl _, hc, Int.le_refl _, Int.le_refl _, fun z => absurd rfl z⟩
    | cons p r =>
      have hp : p ∈ cxs (crs n) ps := by rw [cxs_eq ok, hc]; exact List.mem_cons_self
      obtain ⟨h0, h1, h2, _⟩ := cxs_mem hp
      have sl := step_less hn ok hp
      have nn := sqs_nn n (xchg ps p.1.toNat p.2.toNat)
      have ok2 := xchg_ok ok (i := p.1.toNat) (j := p.2.toNat) (by omega) (by omega)
      obtain ⟨q, q1, q2, q3, q4, q5, q6, _⟩ := ih (sqs n (xchg ps p.1.toNat p.2.toNat)).toNat (by omega) ok2 rfl
      refine ⟨q, q1, q2.trans (xchg_fst (by omega) (by omega)), q3.trans (xchg_snd (by omega) (by omega)), q4, by omega, by omega, fun _ => by omega⟩
/-- the rank of a leading: cost, square, second ones -/
def rk (n : Int) (ps : List (Int × Int)) : Int × Int × List Int := (cst n ps, sqs n ps, ps.map (·.2))
theorem rk3_no {p q : Int × Int × List Int} (h : rk3 p q = false) : ¬ (p.1 < q.1 ∨ p.1 = q.1 ∧ (p.2.1 < q.2.1 ∨ p.2.1 = q.2.1 ∧ p.2.2 ≠ q.2.2 ∧ HT.lexLt p.2.2 q.2.2 = true)) := fun z => by
  rw [rk3_iff.mpr z] at h
  cases h
theorem rot_of {A B ds : List Int} (h : (B ++ A).Pairwise (· < ·)) (hd : ds.Pairwise (· < ·)) (pm : (A ++ B).Perm ds) : ds = B ++ A := by
  have pm2 : (B ++ A).Perm ds := List.perm_append_comm.trans pm
  exact (List.Perm.eq_of_pairwise (le := fun a b => a < b) (fun a b _ _ h1 h2 => absurd h1 (by omega)) h hd pm2).symm
/-- the one of those begun at some place that no other of them comes before is least of all -/
theorem least_all {n : Int} (hn : 0 < n) {fs ds : List Int} (hd : ds.Pairwise (· < ·)) {ls : List (Int × Int)} (lok : LdOk n ls) (lf : ls.map (·.1) = fs)
    (hl : ∀ A B : List Int, ds = B ++ A → rk3 (rk n (fs.zip (A ++ B))) (rk n ls) = false) {ps : List (Int × Int)} (ok : LdOk n ps) (pf : ps.map (·.1) = fs) (psn : (ps.map (·.2)).Perm ds) : rk3 (rk n ps) (rk n ls) = false := by
  obtain ⟨q, q1, q2, q3, q4, q5, q6, q7⟩ := uncross hn _ ok rfl
  obtain ⟨A, B, eq, pw⟩ := no_cross_turned hn q1 q4
  have ed := rot_of pw hd (by rw [← eq]; exact q3.trans psn)
  have hz : fs.zip (A ++ B) = q := by
    rw [← pf, ← q2, ← eq, List.zip_map']
    simp
  have hq := hl A B ed
  rw [hz] at hq
  cases hc : cxs (crsL n) ps with
  | cons p r =>
    have lt := q7 (by rw [hc]; simp)
    cases hz3 : rk3 (rk n ps) (rk n ls) with
    | false => rfl
    | true =>
      have h1 := rk3_iff.mp hz3
      have h2 := rk3_no hq
      unfold rk at h1 h2
      exfalso
      refine h2 ?_
      rcases h1 with h1 | ⟨h1, h3 | ⟨h3, _⟩⟩
      · exact .inl (by dsimp only at h1 ⊢; omega)
      · dsimp only at h1 h3 ⊢
        by_cases e : cst n q = cst n ls
        · exact .inr ⟨e, .inl (by omega)⟩
        · exact .inl (by omega)
      · dsimp only at h1 h3 ⊢
        by_cases e : cst n q = cst n ls
        · exact .inr ⟨e, .inl (by omega)⟩
        · exact .inl (by omega)
  | nil =>
    obtain ⟨A2, B2, eq2, pw2⟩ := no_cross_turned hn ok hc
    have ed2 := rot_of pw2 hd (by rw [← eq2]; exact psn)
    have hz2 : fs.zip (A2 ++ B2) = ps := by
      rw [← pf, ← eq2, List.zip_map']
      simp
    have := hl A2 B2 ed2
    rwa [hz2] at this
/-- a leading of these tones into those, begun at some place, that comes before no other one -/
structure Lst (n : Int) (fs ds : List Int) (ls : List (Int × Int)) : Prop where
  ok : LdOk n ls
  fst : ls.map (·.1) = fs
  snd : (ls.map (·.2)).Perm ds
  rot : ∃ A B : List Int, ds = B ++ A ∧ ls.map (·.2) = A ++ B
  least : ∀ ps : List (Int × Int), LdOk n ps → ps.map (·.1) = fs → (ps.map (·.2)).Perm ds → rk3 (rk n ps) (rk n ls) = false
theorem ld_zip {n : Int} {fs ds ss : List Int} (hf : Tones n fs) (hd : Tones n ds) (hl : fs.length = ss.length) (pm : ss.Perm ds) : LdOk n (fs.zip ss) := by
  have z1 : (fs.zip ss).map (·.1) = fs := List.map_fst_zip (by omega)
  have z2 : (fs.zip ss).map (·.2) = ss := List.map_snd_zip (by omega)
  refine ⟨by rw [z1]; exact hf.1, fun c hc => hf.2 _ (by rw [← z1]; exact List.mem_map_of_mem hc), fun c hc => hd.2 _ (pm.mem_iff.mp (by rw [← z2]; exact List.mem_map_of_mem hc)), ?_⟩
  rw [z2]
  exact pm.nodup_iff.mpr (hd.1.imp fun h => Int.ne_of_lt h)
theorem Lst.of {n : Int} (hn : 0 < n) {fs ds ss : List Int} (hf : Tones n fs) (hd : Tones n ds) (hl : fs.length = ds.length) (hr : ∃ A B : List Int, ds = B ++ A ∧ ss = A ++ B)
    (hb : ∀ A B : List Int, ds = B ++ A → rk3 (rk n (fs.zip (A ++ B))) (rk n (fs.zip ss)) = false) : Lst n fs ds (fs.zip ss) := by
  obtain ⟨A, B, e1, e2⟩ := hr
  have pm : ss.Perm ds := by rw [e1, e2]; exact List.perm_append_comm
  have ls : fs.length = ss.length := by rw [hl, pm.length_eq]
  have z1 : (fs.zip ss).map (·.1) = fs := List.map_fst_zip (by omega)
  have z2 : (fs.zip ss).map (·.2) = ss := List.map_snd_zip (by omega)
  have ok := ld_zip hf hd ls pm
  exact ⟨ok, z1, by rw [z2]; exact pm, ⟨A, B, e1, by rw [z2]; exact e2⟩, fun ps o p1 p2 => least_all hn hd.1 ok z1 hb o p1 p2⟩
theorem Lst.cheap {n : Int} {fs ds : List Int} {ls : List (Int × Int)} (h : Lst n fs ds ls) {ps : List (Int × Int)} (ok : LdOk n ps) (e : ps.map (·.1) = fs) (pm : (ps.map (·.2)).Perm ds) : cst n ls ≤ cst n ps := by
  have := rk3_no (h.least ps ok e pm)
  unfold rk at this
  dsimp only at this
  by_cases c : cst n ps < cst n ls
  · exact absurd (.inl c) this
  · omega
theorem Lst.uncrossed {n : Int} (hn : 0 < n) {fs ds : List Int} {ls : List (Int × Int)} (h : Lst n fs ds ls) : cxs (crsL n) ls = [] := by
  cases hc : cxs (crsL n) ls with
  | nil => rfl
  | cons p r =>
    obtain ⟨q, q1, q2, q3, q4, q5, q6, q7⟩ := uncross hn _ h.ok rfl
    have lt := q7 (by rw [hc]; simp)
    have no := rk3_no (h.least q q1 (q2.trans h.fst) (q3.trans h.snd))
    have ch := h.cheap q1 (q2.trans h.fst) (q3.trans h.snd)
    unfold rk at no
    dsimp only at no
    exact absurd (.inr ⟨by omega, .inl lt⟩) no
theorem lexLt_tot : ∀ {a b : List Int}, a.length = b.length → HT.lexLt a b = false → HT.lexLt b a = false → a = b
  | [], [], _, _, _ => rfl
  | x :: xs, y :: ys, hl, h, k => by
    rw [HT.lexLt_cons] at h k
    by_cases e : x = y
    · subst e
      rw [if_pos rfl] at h k
      rw [lexLt_tot (by simpa using hl) h k]
    · rw [if_neg e] at h
      rw [if_neg (Ne.symm e)] at k
      have h := of_decide_eq_false h
      have k := of_decide_eq_false k
      exact absurd (by omega : x = y) e
theorem zip_self (ps : List (Int × Int)) : (ps.map (·.1)).zip (ps.map (·.2)) = ps := by
  rw [List.zip_map']
  simp
theorem Lst.one {n : Int} {fs ds : List Int} {ls ms : List (Int × Int)} (h : Lst n fs ds ls) (k : Lst n fs ds ms) : ls = ms := by
  have a := rk3_no (h.least ms k.ok k.fst k.snd)
  have b := rk3_no (k.least ls h.ok h.fst h.snd)
  have c1 := h.cheap k.ok k.fst k.snd
  have c2 := k.cheap h.ok h.fst h.snd
  unfold rk at a b
  dsimp only at a b
  have ec : cst n ls = cst n ms := by omega
  have es : sqs n ls = sqs n ms := by
    have n1 : ¬ sqs n ms < sqs n ls := fun z => a (.inr ⟨ec.symm, .inl z⟩)
    have n2 : ¬ sqs n ls < sqs n ms := fun z => b (.inr ⟨ec, .inl z⟩)
    omega
  have e2 : ls.map (·.2) = ms.map (·.2) := by
    refine Classical.byContradiction fun ne => ?_
    have l1 : HT.lexLt (ls.map (·.2)) (ms.map (·.2)) = false := by
      cases z : HT.lexLt (ls.map (·.2)) (ms.map (·.2)) with
      | false => rfl
      | true => exact absurd (.inr ⟨ec, .inr ⟨es, ne, z⟩⟩) b
    have l2 : HT.lexLt (ms.map (·.2)) (ls.map (·.2)) = false := by
      cases z : HT.lexLt (ms.map (·.2)) (ls.map (·.2)) with
      | false => rfl
      | true => exact absurd (.inr ⟨ec.symm, .inr ⟨es.symm, Ne.symm ne, z⟩⟩) a
    exact ne (lexLt_tot (by rw [h.snd.length_eq, k.snd.length_eq]) l1 l2)
  rw [← zip_self ls, ← zip_self ms, h.fst, k.fst, e2]
/-- the second ones begun at each place -/
def rotA (ds : List Int) (k : Nat) : List Int := ds.drop k ++ ds.take k
theorem rotA_split (ds : List Int) (k : Nat) : ∃ A B : List Int, ds = B ++ A ∧ rotA ds k = A ++ B := ⟨ds.drop k, ds.take k, (List.take_append_drop k ds).symm, rfl⟩
theorem rotA_of {ds A B : List Int} (h : ds = B ++ A) : ∃ k, (k < ds.length ∨ k = 0) ∧ rotA ds k = A ++ B := by
  by_cases hA : A = []
  · refine ⟨0, .inr rfl, ?_⟩
    subst hA
    rw [h, List.append_nil]
    show (B.drop 0) ++ (B.take 0) = _
    simp
  · refine ⟨B.length, .inl ?_, ?_⟩
    · rw [h, List.length_append]
      have : 0 < A.length := List.length_pos_iff.mpr hA
      omega
    · unfold rotA
      rw [h, List.drop_left, List.take_left]

theorem prd_int : ∀ (ss : List Int) {H : Hp}, Paired (IntR H) (ss.map V.int) ss
  | [], _ => .nil
  | _ :: ss, _ => .cons rfl (prd_int ss)
theorem cut_back (xs : List V) (k : Nat) : cutV xs (some (k : Int)) none = xs.drop k := by
  unfold cutV
  rw [HT.sIx_none, HT.sIx_nat]
  by_cases h : k ≤ xs.length
  · rw [Nat.min_eq_left h, List.take_of_length_le (by rw [List.length_drop]; omega)]
  · rw [Nat.min_eq_right (by omega), List.drop_length, List.drop_eq_nil_of_le (by omega)]
    simp
theorem lst_len {n : Int} {fs ds : List Int} {ls : List (Int × Int)} (h : Lst n fs ds ls) : ls.length = ds.length := by
  have := h.snd.length_eq
  rwa [List.length_map] at this
/-- the rank of a turned leading, as it lies in the heap -/
def RkR (n : Int) (fs : List Int) (H : Hp) (v : V) (ss : List Int) : Prop := ∃ p z, v = .ref p ∧ H p = some (.tup [.int (cst n (fs.zip ss)), .int (sqs n (fs.zip ss)), .ref z]) ∧ H z = some (.tup (ss.map V.int))
theorem RkR.mono {n : Int} {fs : List Int} {H1 H2 : Hp} {v : V} {ss : List Int} (t : TupKeep H1 H2) (r : RkR n fs H1 v ss) : RkR n fs H2 v ss := let ⟨p, z, e, h, k⟩ := r; ⟨p, z, e, t _ _ h, t _ _ k⟩
def rkOf (n : Int) (fs ss : List Int) : Int × Int × List Int := (cst n (fs.zip ss), sqs n (fs.zip ss), ss)
theorem RkR.trip {n : Int} {fs : List Int} {H : Hp} {v : V} {ss : List Int} (r : RkR n fs H v ss) : TripOf IntR IntR (TupOf IntR) H v (rkOf n fs ss) := let ⟨p, z, e, h, k⟩ := r; ⟨p, _, _, _, e, h, rfl, rfl, z, _, rfl, k, prd_int ss⟩
theorem prd_mapS {α β : Type} {R : V → α → Prop} {S : V → β → Prop} {f : α → β} (h : ∀ x y, R x y → S x (f y)) : ∀ {us : List V} {l : List α}, Paired R us l → Paired S us (l.map f)
  | _, _, .nil => .nil
  | _, _, .cons r t => .cons (h _ _ r) (prd_mapS h t)
/-- the second ones begun at each place, at least once -/
def rots (m : Int) (ds : List Int) : List (List Int) := (rng m).map fun b => rotA ds b.toNat
theorem rots_get (m : Int) (ds : List Int) {k : Nat} (h : k < m.toNat) : (rots m ds)[k]? = some (rotA ds k) := by
  unfold rots
  rw [List.getElem?_map, rng_get m h]
  simp
theorem best_lst {n : Int} (hn : 0 < n) {fs ds : List Int} (hf : Tones n fs) (hd : Tones n ds) (hl : fs.length = ds.length) {m : Int} (hm : m = if (ds.length : Int) > 1 then (ds.length : Int) else 1) {b : Nat} {ss : List Int} (hb : (rots m ds)[b]? = some ss)
    (no : ∀ (j : Nat) (tt : List Int), (rots m ds)[j]? = some tt → rk3 (rkOf n fs tt) (rkOf n fs ss) = false) : Lst n fs ds (fs.zip ss) := by
  have hb2 : b < m.toNat := by
    have := (List.getElem?_eq_some_iff.mp hb).1
    unfold rots at this
    rwa [List.length_map, rng_len] at this
  have es : ss = rotA ds b := by
    rw [rots_get m ds hb2] at hb
    exact (Option.some.inj hb).symm
  have mm : 1 ≤ m.toNat ∧ ds.length ≤ m.toNat := by rw [hm]; split <;> omega
  have lss : ss.length = ds.length := by
    obtain ⟨A, B, e1, e2⟩ := rotA_split ds b
    rw [es, e2, e1, List.length_append, List.length_append]
    omega
  have ek : ∀ tt : List Int, tt.length = ds.length → rk n (fs.zip tt) = rkOf n fs tt := fun tt h => by
    unfold rk rkOf
    rw [List.map_snd_zip (by omega)]
  refine Lst.of hn hf hd hl (by rw [es]; exact rotA_split ds b) fun A B e => ?_
  obtain ⟨k, hk, ek2⟩ := rotA_of e
  have lA : (A ++ B).length = ds.length := by rw [e, List.length_append, List.length_append]; omega
  rw [ek _ lA, ek _ lss, ← ek2]
  exact no k _ (rots_get m ds (by omega))
theorem rotA_len (ds : List Int) (k : Nat) : (rotA ds k).length = ds.length := by
  obtain ⟨A, B, e1, e2⟩ := rotA_split ds k
  rw [e2, e1, List.length_append, List.length_append]
  omega

theorem zip_ldA : ∀ {fs ss : List Int} {H : Hp} {ws : List V}, Paired (TwoR H) ws ((fs.map V.int).zip (ss.map V.int)) → Paired (LdR H) ws (fs.zip ss)
  | [], _, _, _, p => by
    have e : (([] : List Int).map V.int).zip (List.map V.int ‹List Int›) = [] := rfl
    rw [e] at p
    cases p
    exact .nil
  | _ :: _, [], _, _, p => by
    cases p
    exact .nil
  | f :: fs, s :: ss, _, _, p => by
    cases p with
    | cons r t =>
      obtain ⟨T, e, h⟩ := r
      exact .cons ⟨T, e, h⟩ (zip_ldA t)
theorem zip_ld {fs ss : List Int} {H : Hp} {ws : List V} (p : Paired (TwoR H) ws ((fs.map V.int).zip (ss.map V.int))) : Paired (LdR H) ws (fs.zip ss) := zip_ldA p

/-- what the i-th pair's first one pays more to go to the second one of the j-th -/
def wgt (n : Int) (ps : List (Int × Int)) (i j : Nat) : Int := dist n (ps.getD i (0, 0)).1 (ps.getD j (0, 0)).2 - dist n (ps.getD i (0, 0)).1 (ps.getD i (0, 0)).2
/-- a walk, from its end back to its beginning -/
def wlk (w : Nat → Nat → Int) : List Nat → Int
  | [] => 0
  | [_] => 0
  | j :: i :: r => w i j + wlk w (i :: r)
theorem wlk_cut (w : Nat → Nat → Int) (x : Nat) (C : List Nat) : ∀ A : List Nat, wlk w (A ++ x :: C) = wlk w (A ++ [x]) + wlk w (x :: C)
  | [] => by show _ = 0 + _; rw [List.nil_append]; omega
  | [a] => by
    show w x a + wlk w (x :: C) = (w x a + 0) + _
    omega
  | a :: b :: A => by
    have := wlk_cut w x C (b :: A)
    show w b a + wlk w ((b :: A) ++ x :: C) = (w b a + wlk w ((b :: A) ++ [x])) + _
    omega
theorem split_dup : ∀ {l : List Nat}, ¬ l.Nodup → ∃ A x B C, l = A ++ x :: (B ++ x :: C) ∧ (x :: B).Nodup
  | [], h => absurd List.nodup_nil h
  | y :: l, h => by
    by_cases hl : l.Nodup
    · have hy : y ∈ l := Classical.byContradiction fun z => h (List.nodup_cons.mpr ⟨z, hl⟩)
      obtain ⟨B, C, e⟩ := List.append_of_mem hy
      subst e
      refine ⟨[], y, B, C, rfl, List.nodup_cons.mpr ⟨fun z => ?_, (List.sublist_append_left B _).nodup hl⟩⟩
      exact (List.nodup_append.mp hl).2.2 y z y (List.mem_cons_self ..) rfl
    · obtain ⟨A, x, B, C, e, nd⟩ := split_dup hl
      exact ⟨y :: A, x, B, C, by rw [e]; rfl, nd⟩
/-- two places exchanged, in either order -/
def xc (ps : List (Int × Int)) (x v : Nat) : List (Int × Int) := if x < v then xchg ps x v else xchg ps v x
theorem xc_len (ps : List (Int × Int)) (x v : Nat) : (xc ps x v).length = ps.length := by
  unfold xc
  split <;> exact xchg_len _ _ _
theorem xchg_get {ps : List (Int × Int)} {i j : Nat} (hij : i < j) (hj : j < ps.length) (w : Nat) : (xchg ps i j).getD w (0, 0) = if w = i then ((ps.getD i (0, 0)).1, (ps.getD j (0, 0)).2) else if w = j then ((ps.getD j (0, 0)).1, (ps.getD i (0, 0)).2) else ps.getD w (0, 0) := by
  have hi : i < ps.length := by omega
  unfold xchg
  rw [List.getD_eq_getElem?_getD, List.getElem?_set, List.getElem?_set, List.length_set]
  by_cases e2 : w = j
  · subst e2
    rw [if_pos rfl, if_pos hj, if_neg (by omega), if_pos rfl]
    rfl
  · rw [if_neg (Ne.symm e2)]
    by_cases e1 : w = i
    · subst e1
      rw [if_pos rfl, if_pos hi, if_pos rfl]
      rfl
    · rw [if_neg (Ne.symm e1), if_neg e1, if_neg e2, ← List.getD_eq_getElem?_getD]
theorem xc_at {ps : List (Int × Int)} {x v : Nat} (ne : x ≠ v) (hx : x < ps.length) (hv : v < ps.length) : (xc ps x v).getD x (0, 0) = ((ps.getD x (0, 0)).1, (ps.getD v (0, 0)).2) := by
  unfold xc
  split
  · next h => rw [xchg_get h hv, if_pos rfl]
  · next h => rw [xchg_get (by omega) hx, if_neg ne, if_pos rfl]
theorem xc_ne {ps : List (Int × Int)} {x v w : Nat} (ne : x ≠ v) (hx : x < ps.length) (hv : v < ps.length) (h1 : w ≠ x) (h2 : w ≠ v) : (xc ps x v).getD w (0, 0) = ps.getD w (0, 0) := by
  unfold xc
  split
  · next h => rw [xchg_get h hv, if_neg h1, if_neg h2]
  · next h => rw [xchg_get (by omega) hx, if_neg h2, if_neg h1]
theorem xc_all {n : Int} {ps : List (Int × Int)} {x v : Nat} (ne : x ≠ v) (hx : x < ps.length) (hv : v < ps.length) : (LdOk n ps → LdOk n (xc ps x v)) ∧ (xc ps x v).map (·.1) = ps.map (·.1) ∧ ((xc ps x v).map (·.2)).Perm (ps.map (·.2)) := by
  unfold xc
  split
  · next h => exact ⟨fun ok => xchg_ok ok h hv, xchg_fst h hv, xchg_snd h hv⟩
  · next h => exact ⟨fun ok => xchg_ok ok (by omega) hx, xchg_fst (by omega) hx, xchg_snd (by omega) hx⟩
/-- what it costs to lead the first one of a place to a tone -/
def cAt (n : Int) (ps : List (Int × Int)) (i : Nat) (y : Int) : Int := dist n (ps.getD i (0, 0)).1 y
def sAt (ps : List (Int × Int)) (i : Nat) : Int := (ps.getD i (0, 0)).2
theorem xc_cost {n : Int} {ps : List (Int × Int)} {x v : Nat} (ne : x ≠ v) (hx : x < ps.length) (hv : v < ps.length) : cst n (xc ps x v) = cst n ps - cAt n ps x (sAt ps x) - cAt n ps v (sAt ps v) + cAt n ps x (sAt ps v) + cAt n ps v (sAt ps x) := by
  unfold cst xc cAt sAt
  rw [getD_at hx, getD_at hv]
  split
  · next h =>
    rw [xchg_sum _ h hv]
  · next h =>
    rw [xchg_sum _ (by omega : v < x) hx]
    dsimp only
    omega
/-- the second ones handed on round a ring, the one at x last -/
def ring (ps : List (Int × Int)) (x : Nat) : List Nat → List (Int × Int)
  | [] => ps
  | v :: vs => ring (xc ps x v) x vs
/-- what that costs more, y being what is handed on -/
def ringC (n : Int) (ps : List (Int × Int)) (x : Nat) : Int → List Nat → Int
  | y, [] => cAt n ps x y
  | y, v :: vs => cAt n ps v y - cAt n ps v (sAt ps v) + ringC n ps x (sAt ps v) vs
theorem ringC_same {n : Int} {ps qs : List (Int × Int)} {x : Nat} (hx : (qs.getD x (0, 0)).1 = (ps.getD x (0, 0)).1) : ∀ (vs : List Nat) (y : Int), (∀ v ∈ vs, qs.getD v (0, 0) = ps.getD v (0, 0)) → ringC n qs x y vs = ringC n ps x y vs
  | [], y, _ => by show cAt n qs x y = cAt n ps x y; unfold cAt; rw [hx]
  | v :: vs, y, h => by
    have e := h v (List.mem_cons_self ..)
    show cAt n qs v y - cAt n qs v (sAt qs v) + ringC n qs x (sAt qs v) vs = _
    rw [ringC_same hx vs _ fun u hu => h u (List.mem_cons_of_mem _ hu)]
    unfold cAt sAt
    rw [e]
    rfl
theorem ring_all {n : Int} {x : Nat} : ∀ (vs : List Nat) {ps : List (Int × Int)}, x < ps.length → (x :: vs).Nodup → (∀ v ∈ vs, v < ps.length) →
    (LdOk n ps → LdOk n (ring ps x vs)) ∧ (ring ps x vs).map (·.1) = ps.map (·.1) ∧ ((ring ps x vs).map (·.2)).Perm (ps.map (·.2)) ∧ cst n (ring ps x vs) = cst n ps - cAt n ps x (sAt ps x) + ringC n ps x (sAt ps x) vs
  | [], ps, hx, _, _ => ⟨id, rfl, List.Perm.refl _, by show cst n ps = cst n ps - cAt n ps x (sAt ps x) + cAt n ps x (sAt ps x); omega⟩
  | v :: vs, ps, hx, nd, hv => by
    have nd' := List.nodup_cons.mp nd
    have nv := List.nodup_cons.mp nd'.2
    have ne : x ≠ v := fun e => nd'.1 (by rw [e]; exact List.mem_cons_self ..)
    have v1 := hv v (List.mem_cons_self ..)
    obtain ⟨a1, a2, a3⟩ := xc_all (n := n) ne hx v1
    have g := xc_at ne hx v1
    obtain ⟨b1, b2, b3, b4⟩ := ring_all (n := n) vs (ps := xc ps x v) (by rw [xc_len]; exact hx) (List.nodup_cons.mpr ⟨fun z => nd'.1 (List.mem_cons_of_mem _ z), nv.2⟩) (fun u hu => by rw [xc_len]; exact hv u (List.mem_cons_of_mem _ hu))
    refine ⟨fun ok => b1 (a1 ok), b2.trans a2, b3.trans a3, ?_⟩
    show cst n (ring (xc ps x v) x vs) = cst n ps - cAt n ps x (sAt ps x) + (cAt n ps v (sAt ps x) - cAt n ps v (sAt ps v) + ringC n ps x (sAt ps v) vs)
    rw [b4, xc_cost ne hx v1, ringC_same (ps := ps) (by rw [g]) vs _ fun u hu => xc_ne ne hx v1 (fun e => nd'.1 (by rw [← e]; exact List.mem_cons_of_mem _ hu)) (fun e => nv.1 (by rw [← e]; exact hu))]
    have e1 : sAt (xc ps x v) x = sAt ps v := by unfold sAt; rw [g]
    have e2 : cAt n (xc ps x v) x (sAt ps v) = cAt n ps x (sAt ps v) := by unfold cAt; rw [g]
    rw [e1, e2]
    omega
theorem ring_walk {n : Int} {ps : List (Int × Int)} {x : Nat} : ∀ (vs : List Nat) (c : Nat), ringC n ps x (sAt ps c) vs - cAt n ps x (sAt ps x) = wlk (wgt n ps) (c :: (vs ++ [x]))
  | [], c => by
    show cAt n ps x (sAt ps c) - cAt n ps x (sAt ps x) = wgt n ps x c + 0
    unfold wgt cAt sAt
    omega
  | v :: vs, c => by
    have := ring_walk (n := n) (ps := ps) (x := x) vs v
    show cAt n ps v (sAt ps c) - cAt n ps v (sAt ps v) + ringC n ps x (sAt ps v) vs - cAt n ps x (sAt ps x) = wgt n ps v c + wlk (wgt n ps) (v :: (vs ++ [x]))
    rw [← this]
    unfold wgt cAt sAt
    omega
/-- no ring of pairs of a least leading lowers itself -/
theorem no_ring {n : Int} {fs ds : List Int} {ls : List (Int × Int)} (h : Lst n fs ds ls) {x : Nat} {B : List Nat} (nd : (x :: B).Nodup) (hb : ∀ v ∈ x :: B, v < ls.length) : 0 ≤ wlk (wgt n ls) (x :: (B ++ [x])) := by
  obtain ⟨a1, a2, a3, a4⟩ := ring_all (n := n) B (hb x (List.mem_cons_self ..)) nd fun v hv => hb v (List.mem_cons_of_mem _ hv)
  have c := h.cheap (a1 h.ok) (a2.trans h.fst) (a3.trans h.snd)
  rw [← ring_walk]
  omega
/-- one round: each price is the least bound -/
structure Rnd (n : Int) (ps : List (Int × Int)) (p q : List Int) : Prop where
  len : q.length = ps.length
  le : ∀ i j, i < ps.length → j < ps.length → q.getD j 0 ≤ p.getD i 0 + wgt n ps i j
  some : ∀ j, j < ps.length → ∃ i, i < ps.length ∧ q.getD j 0 = p.getD i 0 + wgt n ps i j
/-- so many rounds from noughts -/
inductive Rnds (n : Int) (ps : List (Int × Int)) : Nat → List Int → Prop where
  | zero {p : List Int} (l : p.length = ps.length) (h : ∀ j, p.getD j 0 = 0) : Rnds n ps 0 p
  | succ {t : Nat} {p q : List Int} (h : Rnds n ps t p) (r : Rnd n ps p q) : Rnds n ps (t + 1) q
theorem wgt_self (n : Int) (ps : List (Int × Int)) (i : Nat) : wgt n ps i i = 0 := by unfold wgt; omega
/-- each price is what some walk of so many steps costs -/
theorem Rnds.walk {n : Int} {ps : List (Int × Int)} {t : Nat} {p : List Int} (h : Rnds n ps t p) : ∀ j, j < ps.length → ∃ r : List Nat, r.length = t ∧ (∀ v ∈ j :: r, v < ps.length) ∧ p.getD j 0 = wlk (wgt n ps) (j :: r) := by
  induction h with
  | zero l h => exact fun j hj => ⟨[], rfl, fun v hv => by rw [List.mem_singleton.mp hv]; exact hj, h j⟩
  | succ h r ih =>
    intro j hj
    obtain ⟨i, hi, e⟩ := r.some j hj
    obtain ⟨r', h1, h2, h3⟩ := ih i hi
    refine ⟨i :: r', by rw [List.length_cons, h1], fun v hv => ?_, ?_⟩
    · rcases List.mem_cons.mp hv with z | z
      · rw [z]; exact hj
      · exact h2 v z
    · show _ = wgt n ps i j + wlk (wgt n ps) (i :: r')
      rw [e, h3]
      omega
/-- and no walk of at most so many steps costs less -/
theorem Rnds.least {n : Int} {ps : List (Int × Int)} {t : Nat} {p : List Int} (h : Rnds n ps t p) : ∀ (r : List Nat) (j : Nat), r.length ≤ t → (∀ v ∈ j :: r, v < ps.length) → p.getD j 0 ≤ wlk (wgt n ps) (j :: r) := by
  induction h with
  | zero l h =>
    intro r j hr hv
    have : r = [] := List.length_eq_zero_iff.mp (by omega)
    subst this
    rw [h j]
    exact Int.le_refl _
  | succ h r ih =>
    intro r' j hr hv
    have hj := hv j (List.mem_cons_self ..)
    cases r' with
    | nil =>
      have a := r.le j j hj hj
      have b := ih [] j (Nat.zero_le _) hv
      rw [wgt_self] at a
      omega
    | cons i r2 =>
      have hi := hv i (List.mem_cons_of_mem _ (List.mem_cons_self ..))
      have a := r.le i j hi hj
      have b := ih r2 i (by rw [List.length_cons] at hr; omega) fun v h => hv v (List.mem_cons_of_mem _ h)
      show _ ≤ wgt n ps i j + wlk (wgt n ps) (i :: r2)
      omega
/-- as many rounds as there are pairs: nothing is lowered any more -/
theorem rest_of {n : Int} {fs ds : List Int} {ls : List (Int × Int)} (h : Lst n fs ds ls) {p : List Int} (hp : Rnds n ls ls.length p) {i j : Nat} (hi : i < ls.length) (hj : j < ls.length) : p.getD j 0 ≤ p.getD i 0 + wgt n ls i j := by
  obtain ⟨r, r1, r2, r3⟩ := hp.walk i hi
  have e : p.getD i 0 + wgt n ls i j = wlk (wgt n ls) (j :: i :: r) := by
    show _ = wgt n ls i j + wlk (wgt n ls) (i :: r)
    omega
  rw [e]
  have hv : ∀ v ∈ j :: i :: r, v < ls.length := fun v hv => by
    rcases List.mem_cons.mp hv with z | z
    · rw [z]; exact hj
    · exact r2 v z
  have dup : ¬ (j :: i :: r).Nodup := fun nd => by
    have := nodup_len2 nd (b := List.range ls.length) fun x hx => List.mem_range.mpr (hv x hx)
    rw [List.length_range, List.length_cons, List.length_cons] at this
    omega
  obtain ⟨A, x, B, C, e2, nd⟩ := split_dup dup
  have hl := congrArg List.length e2
  rw [List.length_cons, List.length_cons, List.length_append, List.length_cons, List.length_append, List.length_cons] at hl
  have w1 := wlk_cut (wgt n ls) x (B ++ x :: C) A
  have w2 := wlk_cut (wgt n ls) x C (x :: B)
  have w3 := wlk_cut (wgt n ls) x C A
  have all : ∀ v ∈ A ++ x :: (B ++ x :: C), v < ls.length := by rw [← e2]; exact hv
  have nn := no_ring h nd fun v hv => all v (List.mem_append_right _ (by
    rcases List.mem_cons.mp hv with z | z
    · rw [z]; exact List.mem_cons_self ..
    · exact List.mem_cons_of_mem _ (List.mem_append_left _ z)))
  have hd : ∃ r', A ++ x :: C = j :: r' := by
    cases A with
    | nil =>
      have : j = x := by
        have := congrArg List.head? e2
        simpa using this
      exact ⟨C, by rw [this]; rfl⟩
    | cons a A' =>
      have : j = a := by
        have := congrArg List.head? e2
        simpa using this
      exact ⟨A' ++ x :: C, by rw [this]; rfl⟩
  obtain ⟨r', er⟩ := hd
  have lr := congrArg List.length er
  rw [List.length_cons, List.length_append, List.length_cons] at lr
  have le := hp.least r' j (by omega) (by
    rw [← er]
    intro v hv
    refine all v ?_
    rcases List.mem_append.mp hv with z | z
    · exact List.mem_append_left _ z
    · refine List.mem_append_right _ ?_
      rcases List.mem_cons.mp z with y | y
      · rw [y]; exact List.mem_cons_self ..
      · exact List.mem_cons_of_mem _ (List.mem_append_right _ (List.mem_cons_of_mem _ y)))
  rw [← er] at le
  rw [e2, w1]
  have w2' : wlk (wgt n ls) (x :: (B ++ x :: C)) = wlk (wgt n ls) (x :: (B ++ [x])) + wlk (wgt n ls) (x :: C) := w2
  omega

theorem range_getD {α : Type} (l : List α) (d : α) : (List.range l.length).map (fun k => l.getD k d) = l := by
  refine List.ext_getElem? fun i => ?_
  rw [List.getElem?_map]
  by_cases h : i < l.length
  · rw [List.getElem?_range h, List.getElem?_eq_getElem h]
    simp [List.getD, List.getElem?_eq_getElem h]
  · rw [List.getElem?_eq_none (by simpa using h), List.getElem?_eq_none (by omega)]
    rfl
theorem range_getI (l : List Int) : (List.range l.length).map (fun k => V.int (l.getD k 0)) = l.map V.int := by
  have := congrArg (List.map V.int) (range_getD l 0)
  rw [List.map_map] at this
  exact this
/-- the prices that are told, of the second ones of a leading -/
structure Prc (n : Int) (ls : List (Int × Int)) (p : List Int) : Prop where
  len : p.length = ls.length
  le : ∀ i j, i < ls.length → j < ls.length → p.getD j 0 ≤ p.getD i 0 + wgt n ls i j
def kvI (ls : List (Int × Int)) (p : List Int) : List (Key × V) := (List.range ls.length).map fun k => (Sum.inl (ls.getD k (0, 0)).2, V.int (p.getD k 0))
theorem find_at {α : Type} (g : Nat → α) [DecidableEq α] {m : Nat} (inj : ∀ i j, i < m → j < m → g i = g j → i = j) {f : Nat → V} {k : Nat} (hk : k < m) : (((List.range m).map fun i => (g i, f i)).find? fun q => decide (q.1 = g k)).map (·.2) = some (f k) := by
  have hs : (((List.range m).map fun i => (g i, f i)).find? fun q => decide (q.1 = g k)).isSome = true := by
    rw [List.find?_isSome]
    exact ⟨(g k, f k), List.mem_map.mpr ⟨k, List.mem_range.mpr hk, rfl⟩, decide_eq_true rfl⟩
  obtain ⟨q, hq⟩ := Option.isSome_iff_exists.mp hs
  have h1 := List.find?_some hq
  have h2 := List.mem_of_find?_eq_some hq
  obtain ⟨i, hi, e⟩ := List.mem_map.mp h2
  have h1 : q.1 = g k := of_decide_eq_true h1
  have : i = k := inj i k (List.mem_range.mp hi) hk (by rw [← h1, ← e])
  rw [hq, ← e, this]
  rfl
theorem snd_inj {n : Int} {ls : List (Int × Int)} (ok : LdOk n ls) {i j : Nat} (hi : i < ls.length) (hj : j < ls.length) (e : ls[i].2 = ls[j].2) : i = j := by
  have pw := List.pairwise_iff_getElem.mp ok.nd
  rcases Nat.lt_trichotomy i j with h | h | h
  · have := pw i j (by rw [List.length_map]; exact hi) (by rw [List.length_map]; exact hj) h
    rw [List.getElem_map, List.getElem_map] at this
    exact absurd e this
  · exact h
  · have := pw j i (by rw [List.length_map]; exact hj) (by rw [List.length_map]; exact hi) h
    rw [List.getElem_map, List.getElem_map] at this
    exact absurd e.symm this
theorem atK_kvI {n : Int} {ls : List (Int × Int)} (ok : LdOk n ls) (p : List Int) {k : Nat} (hk : k < ls.length) : atK (kvI ls p) (Sum.inl (ls.getD k (0, 0)).2) = some (.int (p.getD k 0)) := by
  unfold atK kvI
  refine find_at (fun i => (Sum.inl (ls.getD i (0, 0)).2 : Key)) (fun i j hi hj e => ?_) hk
  have e := Sum.inl.inj e
  rw [getD_at hi, getD_at hj] at e
  exact snd_inj ok hi hj e
theorem kvI_nd {n : Int} {ls : List (Int × Int)} (ok : LdOk n ls) (p : List Int) : ((kvI ls p).map (·.1)).Nodup := by
  have e : (kvI ls p).map (·.1) = (ls.map (·.2)).map (Sum.inl : Int → Key) := by
    unfold kvI
    rw [List.map_map, List.map_map]
    have := congrArg (List.map fun c : Int × Int => (Sum.inl c.2 : Key)) (range_getD ls (0, 0))
    rw [List.map_map] at this
    exact this
  rw [e, List.nodup_iff_pairwise_ne, List.pairwise_map]
  exact (List.nodup_iff_pairwise_ne.mp ok.nd).imp fun h z => h (Sum.inl.inj z)
/-- the price of a tone that is led to -/
def prOf (ls : List (Int × Int)) (p : List Int) (t : Int) : Int := p.getD (ls.findIdx fun c => decide (c.2 = t)) 0
theorem prOf_at {n : Int} {ls : List (Int × Int)} (ok : LdOk n ls) (p : List Int) {k : Nat} (hk : k < ls.length) : prOf ls p (ls.getD k (0, 0)).2 = p.getD k 0 := by
  obtain ⟨t, ht⟩ : ∃ t, t = (ls.getD k (0, 0)).2 := ⟨_, rfl⟩
  rw [← ht]
  unfold prOf
  congr 1
  rw [getD_at hk] at ht
  have h : (ls.findIdx fun c => decide (c.2 = t)) < ls.length := List.findIdx_lt_length_of_exists ⟨ls[k], List.getElem_mem hk, by rw [ht]; exact decide_eq_true rfl⟩
  have g := List.findIdx_getElem (w := h)
  have g : (ls[ls.findIdx fun c => decide (c.2 = t)]'h).2 = t := of_decide_eq_true g
  exact snd_inj ok h hk (g.trans ht)
/-- both told tuples -/
def frs1 (n : Int) (ls : List (Int × Int)) (p : List Int) : List Int := ls.map fun c => dist n c.1 c.2 - prOf ls p c.2
def snd1 (ls : List (Int × Int)) (p : List Int) (ds : List Int) : List Int := ds.map (prOf ls p)
theorem mp_getD {α β : Type} (f : α → β) (l : List α) (d : α) {i : Nat} (h : i < l.length) (e : β) : (l.map f).getD i e = f (l.getD i d) := by
  simp [List.getD, List.getElem?_eq_getElem h]
theorem sum_perm {a b : List Int} (h : a.Perm b) : a.sum = b.sum := by
  induction h with
  | nil => rfl
  | cons x _ ih => rw [List.sum_cons, List.sum_cons, ih]
  | swap x y l =>
    rw [List.sum_cons, List.sum_cons, List.sum_cons, List.sum_cons]
    omega
  | trans _ _ h1 h2 => exact h1.trans h2
theorem sum_sub (f g : Int × Int → Int) : ∀ ls : List (Int × Int), (ls.map fun c => f c - g c).sum = (ls.map f).sum - (ls.map g).sum
  | [] => rfl
  | c :: ls => by
    rw [List.map_cons, List.map_cons, List.map_cons, List.sum_cons, List.sum_cons, List.sum_cons, sum_sub f g ls]
    omega
/-- all prices together come to the cost -/
theorem prc_sum {n : Int} {fs ds : List Int} {ls : List (Int × Int)} (h : Lst n fs ds ls) (p : List Int) : (frs1 n ls p).sum + (snd1 ls p ds).sum = cst n ls := by
  have e1 : (snd1 ls p ds).sum = (ls.map fun c => prOf ls p c.2).sum := by
    unfold snd1
    rw [← sum_perm (h.snd.map (prOf ls p)), List.map_map]
    rfl
  unfold frs1 cst
  rw [sum_sub, e1]
  omega
theorem Rnds.len {n : Int} {ps : List (Int × Int)} {t : Nat} {p : List Int} (h : Rnds n ps t p) : p.length = ps.length := by
  cases h with
  | zero l _ => exact l
  | succ _ r => exact r.len
theorem prc_of {n : Int} {fs ds : List Int} {ls : List (Int × Int)} (h : Lst n fs ds ls) {p : List Int} (hp : Rnds n ls ls.length p) : Prc n ls p := ⟨hp.len, fun _ _ hi hj => rest_of h hp hi hj⟩

/-- [elt for x in l], the elements ints, by their places -/
theorem comp_at {β : Type} {K : PySem.W.Frag} {js : List Nat} {tc : TT} {te : TE} {σ : St} {H : Hp} {Fin : Addr → Hp → Prop} {a : Addr} (ws : List V) (bs : List β) (f : β → Int) (hS : SqL K H a ws) (hl : ws.length = bs.length)
    (he : ∀ (i : Nat) (v : V) (b : β) (H' : Hp), ws[i]? = some v → bs[i]? = some b → Same H H' → ∀ Q2 : VK, (∀ H4, Same H' H4 → Q2 (.int (f b)) H4) → te (blkSt js σ (some v)) H' Q2)
    (hn : bs.length ≤ sizeLine)
    (hd : ∀ D H', H D = none → Same H H' → H' D = some (.lst ((bs.map f).map V.int)) → Fin D H') (ht : ∀ v H' (Q2 : Bool → Hp → Prop), Q2 true H' → tc (blkSt js σ (some v)) H' Q2 := by intro v H' Q2 h; exact h) : CompBy js tc te σ (Itl K a) H Fin := by
  have e1 : (List.range bs.length).map (fun k => ws.getD k .non) = ws := by rw [← hl]; exact range_getD ws .non
  refine comp_grow (List.range bs.length) (fun k => ws.getD k .non) (fun _ => true) (fun k => (bs.map f).getD k 0) (fun _ v c => v = .int c) (fun _ _ _ _ _ r => r) (it_list (List.range bs.length) (fun k => ws.getD k .non) (by rw [e1]; exact hS)) (fun b H' _ _ Q2 h => ht _ _ _ (h H' (Same.refl _))) (fun k H' hk _ s Q2 h => ?_) (by rw [List.length_range]; exact hn) fun D us H' hD s hL pr => ?_
  · have hk := List.mem_range.mp hk
    have g1 : ws[k]? = some (ws.getD k .non) := by rw [List.getD_eq_getElem?_getD, List.getElem?_eq_getElem (by omega)]; rfl
    refine he k _ bs[k] H' g1 (List.getElem?_eq_getElem hk) s _ fun H4 s4 => h _ H4 s4 ?_
    rw [List.getD_eq_getElem?_getD, List.getElem?_map, List.getElem?_eq_getElem hk]
    rfl
  · rw [filter_all] at pr
    have e2 := prd_map (g := V.int) pr
    have e3 : (List.range bs.length).map (fun k => (bs.map f).getD k 0) = bs.map f := by
      have := range_getD (bs.map f) 0
      rwa [List.length_map] at this
    rw [e2, e3] at hL
    exact hd D H' hD s hL

structure Txt (K : PySem.W.Frag) (mg : Str → Option Value) : Prop where
  b_len : mg "len" = none
  b_max : mg "max" = none
  b_min : mg "min" = none
  b_range : mg "range" = none
  b_isinstance : mg "isinstance" = none
  b_int : mg "int" = none
  b_bool : mg "bool" = none
  b_tuple : mg "tuple" = none
  b_sorted : mg "sorted" = none
  b_list : mg "list" = none
  b_sum : mg "sum" = none
  b_abs : mg "abs" = none
  b_zip : mg "zip" = none
  b_dict : mg "dict" = none
  b_ValueError : mg "ValueError" = none
  g_EXCS : ∃ c_NoLeading : Addr, mg "NoLeading" = some (.ref c_NoLeading) ∧ PySem.W.nsIn K mainGlobals "NoLeading" = some (some (.ref c_NoLeading)) ∧ PySem.W.excIn K c_NoLeading [.type "ValueError", .type "Exception", .type "BaseException", .type "object"] "ValueError.__new__" = true ∧ PySem.W.exmOne K (.ref c_NoLeading) (.ref c_NoLeading) = some true ∧ PySem.W.XcOk K c_NoLeading ∧ PySem.W.kitOne K (.ref c_NoLeading) (.ref c_NoLeading) = some true ∧ PySem.W.kitOne K (.ref c_NoLeading) (.type "ValueError") = some true ∧ PySem.W.kitAny K (.ref c_NoLeading) [] = some false
abbrev s_step : Stmt := top 4
theorem sc_step : FnScope ["n", "one", "other"] ["n", "one", "other"] (defScope s_step) := ⟨rfl, rfl, rfl, by decide +kernel, rfl, by decide +kernel, by decide +kernel⟩
def sp_step (wd : World) (K : PySem.W.Frag) : Sp := fun vs H Q _ => ∃ n a b : Int, vs = [.int n, .int a, .int b] ∧ 0 < n ∧ Q (.int ((b - a) % n)) H
abbrev s_distance : Stmt := top 5
theorem sc_distance : FnScope ["n", "one", "other"] ["n", "one", "other"] (defScope s_distance) := ⟨rfl, rfl, rfl, by decide +kernel, rfl, by decide +kernel, by decide +kernel⟩
def sp_distance (wd : World) (K : PySem.W.Frag) : Sp := fun vs H Q _ => ∃ n a b : Int, vs = [.int n, .int a, .int b] ∧ 0 < n ∧ Q (.int (dist n a b)) H
abbrev s_move : Stmt := top 6
theorem sc_move : FnScope ["n", "one", "other", "upwards"] ["n", "one", "other"] (defScope s_move) := ⟨rfl, rfl, rfl, by decide +kernel, rfl, by decide +kernel, by decide +kernel⟩
def sp_move (wd : World) (K : PySem.W.Frag) : Sp := fun vs H Q _ => ∃ n a b : Int, vs = [.int n, .int a, .int b] ∧ 0 < n ∧ Q (.int (mv n a b)) H
abbrev s_cost : Stmt := top 8
theorem sc_cost : FnScope ["n", "leading"] ["n", "leading"] (defScope s_cost) := ⟨rfl, rfl, rfl, by decide +kernel, rfl, by decide +kernel, by decide +kernel⟩
def sp_cost (wd : World) (K : PySem.W.Frag) : Sp := fun vs H Q _ => ∃ (n : Int) (l : Addr) (ws : List V) (ps : List (Int × Int)), vs = [.int n, .ref l] ∧ SqL K H l ws ∧ Paired (LdR H) ws ps ∧ 0 < n ∧ n ≤ 24 ∧ ps.length ≤ 24 ∧ ∀ H', Same H H' → Q (.int ((ps.map fun c => dist n c.1 c.2).sum)) H'
abbrev s_square : Stmt := top 9
theorem sc_square : FnScope ["n", "leading"] ["n", "leading"] (defScope s_square) := ⟨rfl, rfl, rfl, by decide +kernel, rfl, by decide +kernel, by decide +kernel⟩
def sp_square (wd : World) (K : PySem.W.Frag) : Sp := fun vs H Q _ => ∃ (n : Int) (l : Addr) (ws : List V) (ps : List (Int × Int)), vs = [.int n, .ref l] ∧ SqL K H l ws ∧ Paired (LdR H) ws ps ∧ 0 < n ∧ n ≤ 24 ∧ ps.length ≤ 24 ∧ ∀ H', Same H H' → Q (.int ((ps.map fun c => mv n c.1 c.2 ^ 2).sum)) H'
abbrev s_turned_round : Stmt := top 11
theorem sc_turned_round : FnScope ["tones"] ["tones"] (defScope s_turned_round) := ⟨rfl, rfl, rfl, by decide +kernel, rfl, by decide +kernel, by decide +kernel⟩
def sp_turned_round (wd : World) (K : PySem.W.Frag) : Sp := fun vs H Q _ => ∃ (p : Addr) (ds : List Int), vs = [.ref p] ∧ H p = some (.tup (ds.map V.int)) ∧ ds.length ≤ 24 ∧ ∀ (m : Int), m = (if (ds.length : Int) > 1 then (ds.length : Int) else 1) → ∀ (l : Addr) (ws : List V) (H' : Hp), H l = none → Same H H' → H' l = some (.lst ws) → Paired (TupR H') ws (rots m ds) → Q (.ref l) H'
abbrev s_rank : Stmt := top 12
theorem sc_rank : FnScope ["n", "one", "seconds", "leading"] ["n", "one", "seconds"] (defScope s_rank) := ⟨rfl, rfl, rfl, by decide +kernel, rfl, by decide +kernel, by decide +kernel⟩
def sp_rank (wd : World) (K : PySem.W.Frag) : Sp := fun vs H Q _ => ∃ (n : Int) (p : Addr) (fs : List Int) (z : Addr) (ss : List Int), vs = [.int n, .ref p, .ref z] ∧ H p = some (.tup (fs.map V.int)) ∧ H z = some (.tup (ss.map V.int)) ∧ fs.length = ss.length ∧ ss.length ≤ 24 ∧ 0 < n ∧ n ≤ 24 ∧ ∀ (r : Addr) (H' : Hp), Same H H' → RkR n fs H' (.ref r) ss → Q (.ref r) H'
abbrev s_least_leading : Stmt := top 13
theorem sc_least_leading : FnScope ["n", "one", "other", "best"] ["n", "one", "other"] (defScope s_least_leading) := ⟨rfl, rfl, rfl, by decide +kernel, rfl, by decide +kernel, by decide +kernel⟩
def sp_least_leading (wd : World) (K : PySem.W.Frag) : Sp := fun vs H Q E => ∃ (n : Int) (p : Addr) (fs : List Int) (p' : Addr) (ds : List Int), vs = [.int n, .ref p, .ref p'] ∧ H p = some (.tup (fs.map V.int)) ∧ H p' = some (.tup (ds.map V.int)) ∧ Tones n fs ∧ Tones n ds ∧ 0 < n ∧ n ≤ 24 ∧ ((fs.length = ds.length ∧ ∀ (ls : List (Int × Int)), Lst n fs ds ls → ∀ (r l : Addr) (ws : List V) (H' : Hp), Same H H' → H l = none → H' r = some (.tup [.int (cst n ls), .ref l]) → H' l = some (.lst ws) → Paired (LdR H') ws ls → Q (.ref r) H') ∨ (fs.length ≠ ds.length ∧ ∀ H', Same H H' → ∀ C, PySem.W.nsIn K mainGlobals "NoLeading" = some (some (.ref C)) → E (.ref C) none H'))
abbrev s_more_than_own : Stmt := top 14
theorem sc_more_than_own : FnScope ["n", "pair", "tone"] ["n", "pair", "tone"] (defScope s_more_than_own) := ⟨rfl, rfl, rfl, by decide +kernel, rfl, by decide +kernel, by decide +kernel⟩
def sp_more_than_own (wd : World) (K : PySem.W.Frag) : Sp := fun vs H Q _ => ∃ (n : Int) (p : Addr) (c : Int × Int) (t : Int), vs = [.int n, .ref p, .int t] ∧ H p = some (.tup [.int c.1, .int c.2]) ∧ 0 < n ∧ Q (.int (dist n c.1 t - dist n c.1 c.2)) H
abbrev s_lowered : Stmt := top 15
theorem sc_lowered : FnScope ["n", "leading", "second_prices", "found", "pair", "bounds"] ["n", "leading", "second_prices"] (defScope s_lowered) := ⟨rfl, rfl, rfl, by decide +kernel, rfl, by decide +kernel, by decide +kernel⟩
def sp_lowered (wd : World) (K : PySem.W.Frag) : Sp := fun vs H Q _ => ∃ (n : Int) (l : Addr) (ws : List V) (ps : List (Int × Int)) (z : Addr) (qs : List Int), vs = [.int n, .ref l, .ref z] ∧ H l = some (.lst ws) ∧ Paired (LdR H) ws ps ∧ H z = some (.lst (qs.map V.int)) ∧ qs.length = ps.length ∧ ps.length ≤ 24 ∧ 0 < n ∧ ∀ rs : List Int, Rnd n ps qs rs → ∀ (r : Addr) (H' : Hp), H r = none → Same H H' → H' r = some (.lst (rs.map V.int)) → Q (.ref r) H'
abbrev s_prices : Stmt := top 16
theorem sc_prices : FnScope ["n", "one", "other", "leading", "second_prices", "turn", "price_of", "firsts"] ["n", "one", "other"] (defScope s_prices) := ⟨rfl, rfl, rfl, by decide +kernel, rfl, by decide +kernel, by decide +kernel⟩
def sp_prices (wd : World) (K : PySem.W.Frag) : Sp := fun vs H Q E => ∃ (n : Int) (p : Addr) (fs : List Int) (p' : Addr) (ds : List Int), vs = [.int n, .ref p, .ref p'] ∧ H p = some (.tup (fs.map V.int)) ∧ H p' = some (.tup (ds.map V.int)) ∧ Tones n fs ∧ Tones n ds ∧ 0 < n ∧ n ≤ 24 ∧ ((fs.length = ds.length ∧ ∀ (ls : List (Int × Int)) (pp : List Int), Lst n fs ds ls → Prc n ls pp → ∀ (r r1 r2 : Addr) (H' : Hp), Same H H' → H' r = some (.tup [.ref r1, .ref r2]) → H' r1 = some (.tup ((frs1 n ls pp).map V.int)) → H' r2 = some (.tup ((snd1 ls pp ds).map V.int)) → Q (.ref r) H') ∨ (fs.length ≠ ds.length ∧ ∀ H', Same H H' → ∀ C, PySem.W.nsIn K mainGlobals "NoLeading" = some (some (.ref C)) → E (.ref C) none H'))
abbrev s_l_cell_at : Stmt := top 18
theorem sc_l_cell_at : FnScope ["_law_script", "_law_k"] ["_law_script", "_law_k"] (defScope s_l_cell_at) := ⟨rfl, rfl, rfl, by decide +kernel, rfl, by decide +kernel, by decide +kernel⟩
def sp_l_cell_at (wd : World) (K : PySem.W.Frag) : Sp := fun vs H Q _ => ∃ (a : Addr) (ns : List Int) (k : Int), vs = [.ref a, .int k] ∧ SqL K H a (ns.map V.int) ∧ ns.length ≤ 63 ∧ ∀ c : Int, Q (.int c) H
abbrev s_l_mixed : Stmt := top 19
theorem sc_l_mixed : FnScope ["_law_script", "_law_k", "_law_salt", "_law_cell", "_law_lap", "_law_near"] ["_law_script", "_law_k", "_law_salt"] (defScope s_l_mixed) := ⟨rfl, rfl, rfl, by decide +kernel, rfl, by decide +kernel, by decide +kernel⟩
def sp_l_mixed (wd : World) (K : PySem.W.Frag) : Sp := fun vs H Q _ => ∃ (a : Addr) (ns : List Int) (k z : Int), vs = [.ref a, .int k, .int z] ∧ SqL K H a (ns.map V.int) ∧ ns.length ≤ 63 ∧ (0 ≤ k ∧ k ≤ 1000000) ∧ (0 ≤ z ∧ z ≤ 1000000) ∧ ∀ c : Int, 0 ≤ c → c < 2147483648 → Q (.int c) H
abbrev s_l_wheel : Stmt := top 20
theorem sc_l_wheel : FnScope ["_law_script", "_law_most"] ["_law_script", "_law_most"] (defScope s_l_wheel) := ⟨rfl, rfl, rfl, by decide +kernel, rfl, by decide +kernel, by decide +kernel⟩
def sp_l_wheel (wd : World) (K : PySem.W.Frag) : Sp := fun vs H Q _ => ∃ (a : Addr) (ns : List Int), vs = [.ref a, .int 24] ∧ SqL K H a (ns.map V.int) ∧ ns.length ≤ 63 ∧ ∀ n : Int, 3 ≤ n → n ≤ 24 → Q (.int n) H
abbrev s_l_row : Stmt := top 21
theorem sc_l_row : FnScope ["_law_script", "_law_k", "_law_salt", "_law_n", "_law_left", "_law_row_here", "_law_j"] ["_law_script", "_law_k", "_law_salt", "_law_n"] (defScope s_l_row) := ⟨rfl, rfl, rfl, by decide +kernel, rfl, by decide +kernel, by decide +kernel⟩
def sp_l_row (wd : World) (K : PySem.W.Frag) : Sp := fun vs H Q _ => ∃ (a : Addr) (ns : List Int) (k z n : Int), vs = [.ref a, .int k, .int z, .int n] ∧ SqL K H a (ns.map V.int) ∧ ns.length ≤ 63 ∧ (0 ≤ k ∧ k ≤ 100000) ∧ (0 ≤ z ∧ z ≤ 100000) ∧ 0 < n ∧ n ≤ 24 ∧ ∀ xs : List Int, xs.Perm (rng n) → ∀ (r : Addr) (H' : Hp), Same H H' → H' r = some (.tup ((xs).map V.int)) → Q (.ref r) H'
abbrev s_l_sized : Stmt := top 22
theorem sc_l_sized : FnScope ["_law_script", "_law_k", "_law_salt", "_law_n", "_law_size"] ["_law_script", "_law_k", "_law_salt", "_law_n", "_law_size"] (defScope s_l_sized) := ⟨rfl, rfl, rfl, by decide +kernel, rfl, by decide +kernel, by decide +kernel⟩
def sp_l_sized (wd : World) (K : PySem.W.Frag) : Sp := fun vs H Q _ => ∃ (a : Addr) (ns : List Int) (k z n m : Int), vs = [.ref a, .int k, .int z, .int n, .int m] ∧ SqL K H a (ns.map V.int) ∧ ns.length ≤ 63 ∧ (0 ≤ k ∧ k ≤ 100000) ∧ (0 ≤ z ∧ z ≤ 100000) ∧ 0 < n ∧ n ≤ 24 ∧ 0 ≤ m ∧ m ≤ n ∧ ∀ f : Int → Bool, ((cw n f).length : Int) = m → ∀ (r : Addr) (H' : Hp), Same H H' → H' r = some (.tup ((cw n f).map V.int)) → Q (.ref r) H'
abbrev s_l_whole : Stmt := top 23
theorem sc_l_whole : FnScope ["_law_found"] ["_law_found"] (defScope s_l_whole) := ⟨rfl, rfl, rfl, by decide +kernel, rfl, by decide +kernel, by decide +kernel⟩
def sp_l_whole (wd : World) (K : PySem.W.Frag) : Sp := fun vs H Q _ => ∃ i : Int, vs = [.int i] ∧ Q (.bl true) H
abbrev s_l_move : Stmt := top 24
theorem sc_l_move : FnScope ["_law_n", "_law_one", "_law_other", "_law_far"] ["_law_n", "_law_one", "_law_other"] (defScope s_l_move) := ⟨rfl, rfl, rfl, by decide +kernel, rfl, by decide +kernel, by decide +kernel⟩
def sp_l_move (wd : World) (K : PySem.W.Frag) : Sp := fun vs H Q _ => ∃ n a b : Int, vs = [.int n, .int a, .int b] ∧ 0 < n ∧ Q (.int (mv n a b)) H
abbrev s_l_prices_of : Stmt := top 25
theorem sc_l_prices_of : FnScope ["_law_n", "_law_leading", "_law_far"] ["_law_n", "_law_leading"] (defScope s_l_prices_of) := ⟨rfl, rfl, rfl, by decide +kernel, rfl, by decide +kernel, by decide +kernel⟩
def sp_l_prices_of (wd : World) (K : PySem.W.Frag) : Sp := fun vs H Q _ => ∃ (n : Int) (l : Addr) (ws : List V) (ps : List (Int × Int)), vs = [.int n, .ref l] ∧ SqL K H l ws ∧ Paired (LdR H) ws ps ∧ 0 < n ∧ n ≤ 24 ∧ ps.length ≤ 24 ∧ ∀ (r : Addr) (H' : Hp), Same H H' → H' r = some (.tup [.int ((ps.map fun c => dist n c.1 c.2).sum), .int ((ps.map fun c => mv n c.1 c.2 ^ 2).sum)]) → Q (.ref r) H'
abbrev s_l_cross : Stmt := top 26
theorem sc_l_cross : FnScope ["_law_n", "_law_one", "_law_other", "_law_gap"] ["_law_n", "_law_one", "_law_other"] (defScope s_l_cross) := ⟨rfl, rfl, rfl, by decide +kernel, rfl, by decide +kernel, by decide +kernel⟩
def sp_l_cross (wd : World) (K : PySem.W.Frag) : Sp := fun vs H Q _ => ∃ (n : Int) (p1 p2 : Addr) (c d : Int × Int), vs = [.int n, .ref p1, .ref p2] ∧ H p1 = some (.tup [.int c.1, .int c.2]) ∧ H p2 = some (.tup [.int d.1, .int d.2]) ∧ 0 < n ∧ Q (.bl (crsL n c d)) H
abbrev s_l_crossings : Stmt := top 27
theorem sc_l_crossings : FnScope ["_law_n", "_law_leading", "_law_many", "_law_found", "_law_i"] ["_law_n", "_law_leading"] (defScope s_l_crossings) := ⟨rfl, rfl, rfl, by decide +kernel, rfl, by decide +kernel, by decide +kernel⟩
def sp_l_crossings (wd : World) (K : PySem.W.Frag) : Sp := fun vs H Q _ => ∃ (n : Int) (l : Addr) (ws : List V) (ps : List (Int × Int)), vs = [.int n, .ref l] ∧ SqL K H l ws ∧ Paired (LdR H) ws ps ∧ 0 < n ∧ n ≤ 24 ∧ ps.length ≤ 24 ∧ ∀ (r : Addr) (us : List V) (H' : Hp), H r = none → Same H H' → H' r = some (.lst us) → Paired (LdR H') us (cxs (crsL n) ps) → Q (.ref r) H'
abbrev s_l_same_pairs : Stmt := top 28
theorem sc_l_same_pairs : FnScope ["_law_found", "_law_due", "_law_k"] ["_law_found", "_law_due"] (defScope s_l_same_pairs) := ⟨rfl, rfl, rfl, by decide +kernel, rfl, by decide +kernel, by decide +kernel⟩
def sp_l_same_pairs (wd : World) (K : PySem.W.Frag) : Sp := fun vs H Q _ => ∃ (l l2 : Addr) (us us2 : List V) (ps : List (Int × Int)), vs = [.ref l, .ref l2] ∧ H l = some (.lst us) ∧ H l2 = some (.lst us2) ∧ Paired (LdR H) us ps ∧ Paired (LdR H) us2 ps ∧ ps.length ≤ 1000 ∧ Q (.bl true) H
abbrev s_l_refused : Stmt := top 29
theorem sc_l_refused : FnScope ["_law_n", "_law_one", "_law_other", "e"] ["_law_n", "_law_one", "_law_other"] (defScope s_l_refused) := ⟨rfl, rfl, rfl, by decide +kernel, rfl, by decide +kernel, by decide +kernel⟩
def sp_l_refused (wd : World) (K : PySem.W.Frag) : Sp := fun vs H Q _ => ∃ (n : Int) (p : Addr) (fs : List Int) (p' : Addr) (ds : List Int), vs = [.int n, .ref p, .ref p'] ∧ H p = some (.tup (fs.map V.int)) ∧ H p' = some (.tup (ds.map V.int)) ∧ Tones n fs ∧ Tones n ds ∧ fs.length ≠ ds.length ∧ 0 < n ∧ n ≤ 24 ∧ ∀ H', Same H H' → Q (.bl true) H'
abbrev s_l_right : Stmt := top 30
theorem sc_l_right : FnScope ["_law_n", "_law_one", "_law_other", "_law_found", "_law_kept", "_law_told", "_law_again"] ["_law_n", "_law_one", "_law_other"] (defScope s_l_right) := ⟨rfl, rfl, rfl, by decide +kernel, rfl, by decide +kernel, by decide +kernel⟩
def sp_l_right (wd : World) (K : PySem.W.Frag) : Sp := fun vs H Q _ => ∃ (n : Int) (p : Addr) (fs : List Int) (p' : Addr) (ds : List Int), vs = [.int n, .ref p, .ref p'] ∧ H p = some (.tup (fs.map V.int)) ∧ H p' = some (.tup (ds.map V.int)) ∧ Tones n fs ∧ Tones n ds ∧ fs.length = ds.length ∧ 0 < n ∧ n ≤ 24 ∧ ∀ H', Same H H' → Q (.bl true) H'
abbrev s_law : Stmt := top 31
theorem sc_law : FnScope ["_law_script", "_law_n", "_law_k", "_law_size", "_law_one", "_law_more"] ["_law_script"] (defScope s_law) := ⟨rfl, rfl, rfl, by decide +kernel, rfl, by decide +kernel, by decide +kernel⟩
def sp_law (wd : World) (K : PySem.W.Frag) : Sp := fun vs H Q _ => ∃ (a : Addr) (ns : List Int), vs = [.ref a] ∧ SqL K H a (ns.map V.int) ∧ ns.length ≤ 63 ∧ ∀ H', Q (.bl true) H'
section
variable {P : Program} {w : World} {K : PySem.W.Frag} {mg : Str → Option Value} {base : Heap}
set_option maxHeartbeats 8000000 in
theorem ok_step {f : Addr} {fd : FuncData} (F : Fun K "step" "step" s_step f fd) (T : Txt K mg)  : FnOk P w K mg base CX0 1 f fd ["n", "one", "other"] (sp_step w K) := by
  refine F.ok sc_step (fun vs H Q E h => ?_) (fun cdv A outer s H vs Q E hr h => ?_)
  · obtain ⟨n, a, b, rfl, hn, q⟩ := h
    rfl
  · obtain ⟨n, a, b, rfl, hn, q⟩ := h
    refine ⟨_, (@pss_one _ _ _ (@ps_ret _ _ _ _ (@pe_op _ _ _ _ _ _ _ _ op_mod (@pe_op _ _ _ _ _ _ _ _ op_sub (pv 2) (pv 1)) (pv 0)))), ?_⟩
    exact ⟨_, rfl, _, rfl, _, _, rfl, rfl, _, rfl, _, _, rfl, rfl, hn, q⟩
set_option maxHeartbeats 8000000 in
theorem ok_distance {f : Addr} {fd : FuncData} (F : Fun K "distance" "distance" s_distance f fd) (T : Txt K mg) (C_step : Has P w K mg base 1 "step" ["n", "one", "other"] (sp_step w K)) : FnOk P w K mg base CX0 2 f fd ["n", "one", "other"] (sp_distance w K) := by
  refine F.ok sc_distance (fun vs H Q E h => ?_) (fun cdv A outer s H vs Q E hr h => ?_)
  · obtain ⟨n, a, b, rfl, hn, q⟩ := h
    rfl
  · obtain ⟨n, a, b, rfl, hn, q⟩ := h
    refine ⟨_, (@pss_one _ _ _ (@ps_ret _ _ _ _ (pe_callB (call_min2 rfl) (by rfl) T.b_min PyProof.Rows.boot_min (@pa_cons _ _ _ _ _ (@pe_callH _ _ _ _ _ _ _ _ _ _ C_step (hr.mono (by decide)) rfl (@pa_cons _ _ _ _ _ (pv 0) (@pa_cons _ _ _ _ _ (pv 1) (@pa_cons _ _ _ _ _ (pv 2) pa_nil (by rfl)) (by rfl)) (by rfl)) (by decide) (by rfl) (by rfl)) (@pa_cons _ _ _ _ _ (@pe_callH _ _ _ _ _ _ _ _ _ _ C_step (hr.mono (by decide)) rfl (@pa_cons _ _ _ _ _ (pv 0) (@pa_cons _ _ _ _ _ (pv 2) (@pa_cons _ _ _ _ _ (pv 1) pa_nil (by rfl)) (by rfl)) (by rfl)) (by decide) (by rfl) (by rfl)) pa_nil (by rfl)) (by rfl))))), ?_⟩
    exact ⟨_, rfl, _, rfl, _, rfl, n, a, b, rfl, hn, _, rfl, _, rfl, _, rfl, n, b, a, rfl, hn, _, _, rfl, q⟩
set_option maxHeartbeats 8000000 in
theorem ok_move {f : Addr} {fd : FuncData} (F : Fun K "move" "move" s_move f fd) (T : Txt K mg) (C_step : Has P w K mg base 1 "step" ["n", "one", "other"] (sp_step w K)) : FnOk P w K mg base CX0 2 f fd ["n", "one", "other"] (sp_move w K) := by
  refine F.ok sc_move (fun vs H Q E h => ?_) (fun cdv A outer s H vs Q E hr h => ?_)
  · obtain ⟨n, a, b, rfl, hn, q⟩ := h
    rfl
  · obtain ⟨n, a, b, rfl, hn, q⟩ := h
    refine ⟨_, (@pss_cons _ _ _ _ _ (@ps_set _ _ 3 _ _ _ _ sc_move.nd rfl (Or.inl rfl) (@pe_callH _ _ _ _ _ _ _ _ _ _ C_step (hr.mono (by decide)) rfl (@pa_cons _ _ _ _ _ (pv 0) (@pa_cons _ _ _ _ _ (pv 1) (@pa_cons _ _ _ _ _ (pv 2) pa_nil (by rfl)) (by rfl)) (by rfl)) (by decide) (by rfl) (by rfl)) (by rfl) (by first | exact Or.inl rfl | exact Or.inr rfl))
      (@pss_cons _ _ _ _ _ (@ps_if _ _ _ _ _ _ _ _ (@pt_cmpR _ _ _ _ _ _ _ _ op_le (@pe_op _ _ _ _ _ _ _ _ op_mul pe_int (pv 3)) (pv 0) (nomark _))
        (@pss_one _ _ _ (@ps_ret _ _ _ _ (pv 3)))
        pss_nil)
      (@pss_one _ _ _ (@ps_ret _ _ _ _ (@pe_op _ _ _ _ _ _ _ _ op_sub (pv 3) (pv 0)))))), ?_⟩
    refine ⟨_, rfl, _, rfl, _, rfl, n, a, b, rfl, hn, _, rfl, _, _, rfl, rfl, .inl ⟨by decide, by decide⟩, _, rfl, _, _, rfl, rfl, _, rfl, ?_⟩
    have e1 : mv n a b = if 2 * ((b - a) % n) ≤ n then (b - a) % n else (b - a) % n - n := rfl
    refine if2 (fun e => ?_) (fun e => ?_)
    · rw [e1, if_pos (of_decide_eq_true e)] at q
      exact ⟨_, rfl, q⟩
    · rw [e1, if_neg (of_decide_eq_false e)] at q
      exact ⟨_, rfl, _, rfl, _, _, rfl, rfl, q⟩
set_option maxHeartbeats 8000000 in
theorem ok_cost {f : Addr} {fd : FuncData} (F : Fun K "cost" "cost" s_cost f fd) (T : Txt K mg) (C_distance : Has P w K mg base 2 "distance" ["n", "one", "other"] (sp_distance w K)) : FnOk P w K mg base CX0 3 f fd ["n", "leading"] (sp_cost w K) := by
  refine F.ok sc_cost (fun vs H Q E h => ?_) (fun cdv A outer s H vs Q E hr h => ?_)
  · obtain ⟨n, l, ws, ps, rfl, hS, pr, hn, n24, hl, q⟩ := h
    rfl
  · obtain ⟨n, l, ws, ps, rfl, hS, pr, hn, n24, hl, q⟩ := h
    refine ⟨_, (@pss_one _ _ _ (@ps_ret _ _ _ _ (pe_callB (call_sum rfl) (by rfl) T.b_sum PyProof.Rows.boot_sum (@pa_cons _ _ _ _ _ (pe_comp2 (ys := ["n"]) (js := [0]) ⟨by rfl, of_decide_eq_true (by kernel_rfl), of_decide_eq_true (by kernel_rfl), by rfl, by rfl, of_decide_eq_true (by kernel_rfl), of_decide_eq_true (by kernel_rfl), by rfl, of_decide_eq_true (by kernel_rfl)⟩ rfl (pi_list (pv 1)) (fun _ _ _ _ _ => (@pe_callH _ _ _ _ _ _ _ _ _ _ C_distance (hr.mono (by decide)) rfl (@pa_cons _ _ _ _ _ (pv 2) (@pa_cons _ _ _ _ _ (pv 0) (@pa_cons _ _ _ _ _ (pv 1) pa_nil (by rfl)) (by rfl)) (by rfl)) (by decide) (by rfl) (by rfl)))) pa_nil (by rfl))))), ?_⟩
    refine ⟨_, rfl, l, rfl, ⟨_, hS⟩, comp2_int ws ps (fun c => .int c.1) (fun c => .int c.2) (fun c => dist n c.1 c.2) hS pr (fun c H' _ _ Q2 h => ⟨_, rfl, _, rfl, _, rfl, n, _, _, rfl, hn, h H' (Same.refl _)⟩) (fit1000 (by omega)) fun D H1 hD s1 hL => ?_⟩
    exact ⟨D, _, rfl, SqL.of hL, q H1 s1⟩
set_option maxHeartbeats 8000000 in
theorem ok_square {f : Addr} {fd : FuncData} (F : Fun K "square" "square" s_square f fd) (T : Txt K mg) (C_move : Has P w K mg base 2 "move" ["n", "one", "other"] (sp_move w K)) : FnOk P w K mg base CX0 3 f fd ["n", "leading"] (sp_square w K) := by
  refine F.ok sc_square (fun vs H Q E h => ?_) (fun cdv A outer s H vs Q E hr h => ?_)
  · obtain ⟨n, l, ws, ps, rfl, hS, pr, hn, n24, hl, q⟩ := h
    rfl
  · obtain ⟨n, l, ws, ps, rfl, hS, pr, hn, n24, hl, q⟩ := h
    refine ⟨_, (@pss_one _ _ _ (@ps_ret _ _ _ _ (pe_callB (call_sum rfl) (by rfl) T.b_sum PyProof.Rows.boot_sum (@pa_cons _ _ _ _ _ (pe_comp2 (ys := ["n"]) (js := [0]) ⟨by rfl, of_decide_eq_true (by kernel_rfl), of_decide_eq_true (by kernel_rfl), by rfl, by rfl, of_decide_eq_true (by kernel_rfl), of_decide_eq_true (by kernel_rfl), by rfl, of_decide_eq_true (by kernel_rfl)⟩ rfl (pi_list (pv 1)) (fun _ _ _ _ _ => (@pe_op _ _ _ _ _ _ _ _ op_pow (@pe_callH _ _ _ _ _ _ _ _ _ _ C_move (hr.mono (by decide)) rfl (@pa_cons _ _ _ _ _ (pv 2) (@pa_cons _ _ _ _ _ (pv 0) (@pa_cons _ _ _ _ _ (pv 1) pa_nil (by rfl)) (by rfl)) (by rfl)) (by decide) (by rfl) (by rfl)) pe_int))) pa_nil (by rfl))))), ?_⟩
    refine ⟨_, rfl, l, rfl, ⟨_, hS⟩, comp2_int ws ps (fun c => .int c.1) (fun c => .int c.2) (fun c => mv n c.1 c.2 ^ 2) hS pr (fun c H' _ _ Q2 h => ⟨_, rfl, _, rfl, _, rfl, n, _, _, rfl, hn, _, _, rfl, rfl, ⟨by decide, by decide, ?_⟩, h H' (Same.refl _)⟩) (fit1000 (by omega)) fun D H1 hD s1 hL => ?_⟩
    · have := mv_b hn c.1 c.2
      omega
    exact ⟨D, _, rfl, SqL.of hL, q H1 s1⟩
set_option maxHeartbeats 8000000 in
theorem ok_turned_round {f : Addr} {fd : FuncData} (F : Fun K "turned_round" "turned_round" s_turned_round f fd) (T : Txt K mg)  : FnOk P w K mg base CX0 1 f fd ["tones"] (sp_turned_round w K) := by
  refine F.ok sc_turned_round (fun vs H Q E h => ?_) (fun cdv A outer s H vs Q E hr h => ?_)
  · obtain ⟨p, ds, rfl, hp, l24, q⟩ := h
    rfl
  · obtain ⟨p, ds, rfl, hp, l24, q⟩ := h
    refine ⟨_, (@pss_one _ _ _ (@ps_ret _ _ _ _ (pe_comp (ys := ["tones"]) (js := [0]) ⟨by rfl, of_decide_eq_true (by kernel_rfl), of_decide_eq_true (by kernel_rfl), by rfl, of_decide_eq_true (by kernel_rfl), of_decide_eq_true (by kernel_rfl), by rfl, of_decide_eq_true (by kernel_rfl)⟩ rfl (pi_range1 rfl T.b_range (@pa_cons _ _ _ _ _ (pe_callB (call_max2 rfl) (by rfl) T.b_max PyProof.Rows.boot_max (@pa_cons _ _ _ _ _ pe_int (@pa_cons _ _ _ _ _ (pe_callB call_len_seq (by rfl) T.b_len PySem.boot_len (@pa_cons _ _ _ _ _ (pv 0) pa_nil (by rfl))) pa_nil (by rfl)) (by rfl))) pa_nil (by rfl))) (fun _ _ _ _ _ => pts_nil) (fun _ _ _ _ _ => (@pe_op _ _ _ _ _ _ _ _ op_catS (pe_slice sl_tupS (pv 1) (po_some (pv 0)) po_none) (pe_slice sl_tupS (pv 1) po_none (po_some (pv 0)))))))), ?_⟩
    have ld : (ds.map V.int).length = ds.length := List.length_map _
    have em : (if ((ds.map V.int).length : Int) > 1 then ((ds.map V.int).length : Int) else 1) = (if (ds.length : Int) > 1 then (ds.length : Int) else 1) := by rw [ld]
    refine ⟨_, rfl, p, _, rfl, .inr (SqT.of hp), _, _, rfl, ?_⟩
    dsimp only
    have mb : 0 ≤ (if ((ds.map V.int).length : Int) > 1 then ((ds.map V.int).length : Int) else 1) ∧ (if ((ds.map V.int).length : Int) > 1 then ((ds.map V.int).length : Int) else 1) ≤ 24 := by rw [ld]; split <;> omega
    generalize (if ((ds.map V.int).length : Int) > 1 then ((ds.map V.int).length : Int) else 1) = m at em mb ⊢
    refine ⟨m, rfl, by omega, by omega, comp_grow (rng m) V.int (fun _ => true) (fun b => rotA ds b.toNat) TupR (fun _ _ _ _ t r => r.mono t) (it_range H 0 m.toNat) (fun b H' _ _ Q2 h => h H' (Same.refl _)) (fun b H' hb _ s Q2 h => ?_) (by rw [rng_len]; exact fit1000 (by omega)) fun D ws H1 hD s1 hL pr => ?_⟩
    · have hb := rng_mem.mp hb
      have eb : b = ((b.toNat : Nat) : Int) := by omega
      refine ⟨_, rfl, _, rfl, b, rfl, p, _, rfl, s _ _ hp, fun x G1 sx hx => ?_⟩
      refine ⟨_, rfl, _, rfl, b, rfl, p, _, rfl, sx _ _ (s _ _ hp), fun y G2 sy hy => ?_⟩
      have hx2 := sy _ _ hx
      rw [eb, cut_back] at hx2
      rw [eb, cut_front] at hy
      refine ⟨x, y, _, _, rfl, rfl, hx2, hy, (by rw [← List.length_append]; refine fit1000 ?_; simp; omega), fun r G3 s' h' => ?_⟩
      refine h _ G3 ((sx.trans sy).trans s') ⟨r, rfl, ?_⟩
      rw [h']
      unfold rotA
      rw [List.map_append, List.map_drop, List.map_take]
    rw [filter_all] at pr
    exact q m em D ws H1 hD s1 hL pr
set_option maxHeartbeats 8000000 in
theorem ok_rank {f : Addr} {fd : FuncData} (F : Fun K "rank" "rank" s_rank f fd) (T : Txt K mg) (C_cost : Has P w K mg base 3 "cost" ["n", "leading"] (sp_cost w K)) (C_square : Has P w K mg base 3 "square" ["n", "leading"] (sp_square w K)) : FnOk P w K mg base CX0 4 f fd ["n", "one", "seconds"] (sp_rank w K) := by
  refine F.ok sc_rank (fun vs H Q E h => ?_) (fun cdv A outer s H vs Q E hr h => ?_)
  · obtain ⟨n, p, fs, z, ss, rfl, hp, hz, hl, l24, hn, n24, q⟩ := h
    rfl
  · obtain ⟨n, p, fs, z, ss, rfl, hp, hz, hl, l24, hn, n24, q⟩ := h
    refine ⟨_, (@pss_cons _ _ _ _ _ (@ps_set _ _ 3 _ _ _ _ sc_rank.nd rfl (Or.inl rfl) (pe_listZipT rfl (by rfl) T.b_list (by rfl) T.b_zip (pv 1) (pv 2)) (by rfl) (by first | exact Or.inl rfl | exact Or.inr rfl))
      (@pss_one _ _ _ (@ps_ret _ _ _ _ (pe_tupG (@pa_cons _ _ _ _ _ (@pe_callH _ _ _ _ _ _ _ _ _ _ C_cost (hr.mono (by decide)) rfl (@pa_cons _ _ _ _ _ (pv 0) (@pa_cons _ _ _ _ _ (pv 3) pa_nil (by rfl)) (by rfl)) (by decide) (by rfl) (by rfl)) (@pa_cons _ _ _ _ _ (@pe_callH _ _ _ _ _ _ _ _ _ _ C_square (hr.mono (by decide)) rfl (@pa_cons _ _ _ _ _ (pv 0) (@pa_cons _ _ _ _ _ (pv 3) pa_nil (by rfl)) (by rfl)) (by decide) (by rfl) (by rfl)) (@pa_cons _ _ _ _ _ (pv 2) pa_nil (by rfl)) (by rfl)) (by rfl)))))), ?_⟩
    refine ⟨_, rfl, _, rfl, p, z, _, _, rfl, rfl, SqT.of hp, SqT.of hz, by rw [List.length_map, List.length_map]; exact hl, fun l ws H1 l0 s1 h1 pr => ?_⟩
    have pr := zip_ld pr
    have lz : (fs.zip ss).length ≤ 24 := by rw [List.length_zip]; omega
    refine ⟨_, rfl, _, rfl, n, l, ws, fs.zip ss, rfl, SqL.of h1, pr, hn, n24, lz, fun H2 s2 => ?_⟩
    refine ⟨_, rfl, _, rfl, n, l, ws, fs.zip ss, rfl, SqL.of (s2 _ _ h1), ld_same s2 pr, hn, n24, lz, fun H3 s3 => ?_⟩
    refine ⟨_, rfl, (by show 3 ≤ sizeLine; decide), fun r H4 s4 h4 => ?_⟩
    have S := ((s1.trans s2).trans s3).trans s4
    exact q r H4 S ⟨r, z, rfl, h4, S _ _ hz⟩
set_option maxHeartbeats 8000000 in
theorem ok_least_leading {f : Addr} {fd : FuncData} (F : Fun K "least_leading" "least_leading" s_least_leading f fd) (T : Txt K mg) (C_rank : Has P w K mg base 4 "rank" ["n", "one", "seconds"] (sp_rank w K)) (C_turned_round : Has P w K mg base 1 "turned_round" ["tones"] (sp_turned_round w K)) : FnOk P w K mg base (CXE P w) 5 f fd ["n", "one", "other"] (sp_least_leading w K) := by
  refine F.okX sc_least_leading (fun vs H Q E h => ?_) (fun cdv A outer s H vs Q E hr h => ?_)
  · obtain ⟨n, p, fs, p', ds, rfl, hp, hp', tf, td, hn, n24, q⟩ := h
    rfl
  · obtain ⟨n, p, fs, p', ds, rfl, hp, hp', tf, td, hn, n24, q⟩ := h
    obtain ⟨c_NoLeading, hm_NoLeading, ns_NoLeading, ex_NoLeading, xm_NoLeading, xo_NoLeading, k1_NoLeading, k2_NoLeading, k3_NoLeading⟩ := T.g_EXCS
    refine ⟨_, (@pss_cons _ _ _ _ _ (@ps_if _ _ _ _ _ _ _ _ (@pt_cmpR _ _ _ _ _ _ _ _ op_ne (pe_callB call_len_seq (by rfl) T.b_len PySem.boot_len (@pa_cons _ _ _ _ _ (pv 1) pa_nil (by rfl))) (pe_callB call_len_seq (by rfl) T.b_len PySem.boot_len (@pa_cons _ _ _ _ _ (pv 2) pa_nil (by rfl))) (nomark _))
        (@pss_one _ _ _ (ps_raise rfl rfl ⟨rfl, rfl⟩ (fun _ _ z => z) (by rfl) hm_NoLeading ex_NoLeading PySem.F.excBase_ValueError pe_str))
        pss_nil)
      (@pss_cons _ _ _ _ _ (@ps_set _ _ 3 _ _ _ _ sc_least_leading.nd rfl (Or.inl rfl) (pe_callB (call_minT (d := 2) rfl (ltok_trip ((eqok_int).up (by decide)) ((eqok_int).up (by decide)) (eqok_tup eqok_int) ((ltok_int).up (by decide)) ((ltok_int).up (by decide)) ltok_ints) (by decide) hr.units) (by rfl) T.b_min PyProof.Rows.boot_min (@pa_cons _ _ _ _ _ (pe_comp (ys := ["n", "one"]) (js := [0, 1]) ⟨by rfl, of_decide_eq_true (by kernel_rfl), of_decide_eq_true (by kernel_rfl), by rfl, of_decide_eq_true (by kernel_rfl), of_decide_eq_true (by kernel_rfl), by rfl, of_decide_eq_true (by kernel_rfl)⟩ rfl (pi_list (@pe_callH _ _ _ _ _ _ _ _ _ _ C_turned_round (hr.mono (by decide)) rfl (@pa_cons _ _ _ _ _ (pv 2) pa_nil (by rfl)) (by decide) (by rfl) (by rfl))) (fun _ _ _ _ _ => pts_nil) (fun _ _ _ _ _ => (@pe_callH _ _ _ _ _ _ _ _ _ _ C_rank (hr.mono (by decide)) rfl (@pa_cons _ _ _ _ _ (pv 1) (@pa_cons _ _ _ _ _ (pv 2) (@pa_cons _ _ _ _ _ (pv 0) pa_nil (by rfl)) (by rfl)) (by rfl)) (by decide) (by rfl) (by rfl)))) pa_nil (by rfl))) (by rfl) (by first | exact Or.inl rfl | exact Or.inr rfl))
      (@pss_one _ _ _ (@ps_ret _ _ _ _ (pe_tupG (@pa_cons _ _ _ _ _ (@pe_ix _ _ _ _ _ _ _ ix_tup (pv 3) pe_int (fun _ _ => rfl)) (@pa_cons _ _ _ _ _ (pe_listZipT rfl (by rfl) T.b_list (by rfl) T.b_zip (pv 1) (@pe_ix _ _ _ _ _ _ _ ix_tup (pv 3) pe_int (fun _ _ => rfl))) pa_nil (by rfl)) (by rfl))))))), ?_⟩
    rcases q with ⟨hl, q⟩ | ⟨hne, q⟩
    rotate_left
    · refine ⟨_, rfl, p, _, rfl, .inr (SqT.of hp), _, rfl, p', _, rfl, .inr (SqT.of hp'), rfl, _, rfl, ifp (by rw [eqF (by rw [List.length_map, List.length_map]; omega)]; rfl) ?_⟩
      exact q H (Same.refl _) _ ns_NoLeading
    have lf : (fs.map V.int).length = fs.length := List.length_map _
    have ld : (ds.map V.int).length = ds.length := List.length_map _
    have d24 := td.len
    refine ⟨_, rfl, p, _, rfl, .inr (SqT.of hp), _, rfl, p', _, rfl, .inr (SqT.of hp'), rfl, _, rfl, ifn (neF (by rw [lf, ld, hl])) ?_⟩
    refine ⟨_, rfl, p', ds, rfl, hp', by omega, fun m em l0 w0 H1 l00 s1 h1 pr1 => ?_⟩
    have m1 : 1 ≤ m.toNat ∧ m.toNat ≤ 24 := by rw [em]; split <;> omega
    have lr : (rots m ds).length = m.toNat := by unfold rots; rw [List.length_map, rng_len]
    refine ⟨l0, rfl, ⟨_, SqL.of h1⟩, comp_prd w0 (rots m ds) TupR (fun _ => true) id (RkR n fs) (fun _ _ _ _ t r => r.mono t) (fun _ _ _ _ t r => r.mono t) (SqL.of h1) pr1 (fun v c H' hc r s Q2 h => h H' (Same.refl _)) (fun v c H' hc r hpt s Q2 h => ?_) (by rw [lr]; exact fit1000 (by omega)) fun D us H2 hD s2 hL pr2 => ?_⟩
    · obtain ⟨z, rfl, hz⟩ := r
      obtain ⟨b, hb, rfl⟩ := List.mem_map.mp hc
      have lb := rotA_len ds b.toNat
      exact ⟨_, rfl, _, rfl, _, rfl, n, p, fs, z, _, rfl, (s1.trans s) _ _ hp, hz, by omega, by omega, hn, n24, fun r H3 s3 h3 => h _ H3 s3 h3⟩
    rw [filter_all, List.map_id] at pr2
    have ne : (rots m ds).map (rkOf n fs) ≠ [] := fun e => by
      have := congrArg List.length e
      rw [List.length_map, lr] at this
      have : m.toNat = 0 := this
      omega
    refine ⟨D, us, (rots m ds).map (rkOf n fs), rkOf n fs [], rfl, SqL.of hL, prd_mapS (fun x y z => z.trip) pr2, ne, fun v hv => ?_⟩
    have gd : ∀ i, ((rots m ds).map (rkOf n fs)).getD i (rkOf n fs []) = rkOf n fs ((rots m ds).getD i []) := fun i => by
      rw [List.getD_eq_getElem?_getD, List.getD_eq_getElem?_getD, List.getElem?_map]
      cases (rots m ds)[i]? <;> rfl
    have bl := best_le (lt := rk3) rk3_irr (fun a b c => rk3_tr) (fun i => ((rots m ds).map (rkOf n fs)).getD i (rkOf n fs [])) (((rots m ds).map (rkOf n fs)).length - 1)
    have hv : us[argBest (fun i j => rk3 (((rots m ds).map (rkOf n fs)).getD i (rkOf n fs [])) (((rots m ds).map (rkOf n fs)).getD j (rkOf n fs []))) (((rots m ds).map (rkOf n fs)).length - 1)]? = some v := hv
    generalize argBest (fun i j => rk3 (((rots m ds).map (rkOf n fs)).getD i (rkOf n fs [])) (((rots m ds).map (rkOf n fs)).getD j (rkOf n fs []))) (((rots m ds).map (rkOf n fs)).length - 1) = b at hv bl
    obtain ⟨ss, hss, r, z, rfl, hr9, hz⟩ := prd_at pr2 hv
    have no : ∀ (j : Nat) (tt : List Int), (rots m ds)[j]? = some tt → rk3 (rkOf n fs tt) (rkOf n fs ss) = false := fun j tt ht => by
      have hj := (List.getElem?_eq_some_iff.mp ht).1
      have := bl j (by rw [List.length_map]; omega)
      rw [gd, gd, List.getD_eq_getElem?_getD, List.getD_eq_getElem?_getD, ht, hss] at this
      exact this
    have lst := best_lst hn tf td hl em hss no
    have lss : ss.length = ds.length := by
      obtain ⟨c, _, rfl⟩ := List.mem_map.mp (List.mem_of_getElem? hss)
      exact rotA_len ds _
    have S2 := s1.trans s2
    refine ⟨_, rfl, r, _, _, _, rfl, rfl, SqT.of hr9, rfl, _, rfl, _, rfl, r, _, _, _, rfl, rfl, SqT.of hr9, rfl, p, z, _, _, rfl, rfl, SqT.of (S2 _ _ hp), SqT.of hz, by rw [List.length_map, List.length_map]; omega, fun l ws H3 l30 s3 h3 pr3 => ?_⟩
    have pr3 := zip_ld pr3
    exact ⟨two_fit, fun r2 H4 s4 h4 => q _ lst r2 l ws H4 ((S2.trans s3).trans s4) (S2.free l30) h4 (s4 _ _ h3) (ld_same s4 pr3)⟩
set_option maxHeartbeats 8000000 in
theorem ok_more_than_own {f : Addr} {fd : FuncData} (F : Fun K "more_than_own" "more_than_own" s_more_than_own f fd) (T : Txt K mg) (C_distance : Has P w K mg base 2 "distance" ["n", "one", "other"] (sp_distance w K)) : FnOk P w K mg base CX0 3 f fd ["n", "pair", "tone"] (sp_more_than_own w K) := by
  refine F.ok sc_more_than_own (fun vs H Q E h => ?_) (fun cdv A outer s H vs Q E hr h => ?_)
  · obtain ⟨n, p, c, t, rfl, hp, hn, q⟩ := h
    rfl
  · obtain ⟨n, p, c, t, rfl, hp, hn, q⟩ := h
    refine ⟨_, (@pss_one _ _ _ (@ps_ret _ _ _ _ (@pe_op _ _ _ _ _ _ _ _ op_sub (@pe_callH _ _ _ _ _ _ _ _ _ _ C_distance (hr.mono (by decide)) rfl (@pa_cons _ _ _ _ _ (pv 0) (@pa_cons _ _ _ _ _ (@pe_ix _ _ _ _ _ _ _ ix_tup (pv 1) pe_int (fun _ _ => rfl)) (@pa_cons _ _ _ _ _ (pv 2) pa_nil (by rfl)) (by rfl)) (by rfl)) (by decide) (by rfl) (by rfl)) (@pe_callH _ _ _ _ _ _ _ _ _ _ C_distance (hr.mono (by decide)) rfl (@pa_cons _ _ _ _ _ (pv 0) (@pa_cons _ _ _ _ _ (@pe_ix _ _ _ _ _ _ _ ix_tup (pv 1) pe_int (fun _ _ => rfl)) (@pa_cons _ _ _ _ _ (@pe_ix _ _ _ _ _ _ _ ix_tup (pv 1) pe_int (fun _ _ => rfl)) pa_nil (by rfl)) (by rfl)) (by rfl)) (by decide) (by rfl) (by rfl))))), ?_⟩
    exact ⟨_, rfl, _, rfl, p, _, _, _, rfl, rfl, SqT.of hp, rfl, _, rfl, n, c.1, t, rfl, hn, _, rfl, _, rfl, p, _, _, _, rfl, rfl, SqT.of hp, rfl, _, rfl, p, _, _, _, rfl, rfl, SqT.of hp, rfl, n, c.1, c.2, rfl, hn, _, _, rfl, rfl, q⟩
set_option maxHeartbeats 8000000 in
theorem ok_lowered {f : Addr} {fd : FuncData} (F : Fun K "lowered" "lowered" s_lowered f fd) (T : Txt K mg) (C_more_than_own : Has P w K mg base 3 "more_than_own" ["n", "pair", "tone"] (sp_more_than_own w K)) : FnOk P w K mg base CX0 4 f fd ["n", "leading", "second_prices"] (sp_lowered w K) := by
  refine F.ok sc_lowered (fun vs H Q E h => ?_) (fun cdv A outer s H vs Q E hr h => ?_)
  · obtain ⟨n, l, ws, ps, z, qs, rfl, hL, pr, hz, lq, l24, hn, q⟩ := h
    rfl
  · obtain ⟨n, l, ws, ps, z, qs, rfl, hL, pr, hz, lq, l24, hn, q⟩ := h
    refine ⟨_, (@pss_cons _ _ _ _ _ (@ps_set _ _ 3 _ _ _ _ sc_lowered.nd rfl (Or.inl rfl) (pe_lstG pa_nil) (by rfl) (by first | exact Or.inl rfl | exact Or.inr rfl))
      (@pss_cons _ _ _ _ _ (ps_for PassesOwn.never rfl (pi_list (pv 1)) (pg_name (i := 4) sc_lowered.nd rfl (Or.inr rfl))
        (@pss_cons _ _ _ _ _ (ps_setC2 (i := 5) sc_lowered.nd rfl rfl (ys := ["n", "pair"]) (js := [0, 4]) ⟨by rfl, of_decide_eq_true (by kernel_rfl), of_decide_eq_true (by kernel_rfl), by rfl, by rfl, of_decide_eq_true (by kernel_rfl), of_decide_eq_true (by kernel_rfl), by rfl, of_decide_eq_true (by kernel_rfl)⟩ rfl (pi_zipL rfl T.b_zip (pv 1) (pv 2)) (fun _ _ _ _ _ => (@pe_op _ _ _ _ _ _ _ _ op_add (pv 1) (@pe_callH _ _ _ _ _ _ _ _ _ _ C_more_than_own (hr.mono (by decide)) rfl (@pa_cons _ _ _ _ _ (pv 2) (@pa_cons _ _ _ _ _ (pv 0) (@pa_cons _ _ _ _ _ (@pe_ix _ _ _ _ _ _ _ (kix_tup (K := K) rfl) (pv 3) pe_int (fun _ _ => rfl)) pa_nil (by rfl)) (by rfl)) (by rfl)) (by decide) (by rfl) (by rfl)))))
        (@pss_one _ _ _ (ps_expr (pe_bm PySem.F.plainAttrs_list PySem.F.slot_list_append PySem.F.type_list_append mt_append (pv 3) (@pa_cons _ _ _ _ _ (pe_callB (call_minT (d := 0) rfl ltok_int (by decide) hr.units) (by rfl) T.b_min PyProof.Rows.boot_min (@pa_cons _ _ _ _ _ (pv 5) pa_nil (by rfl))) pa_nil (by rfl)))))))
      (@pss_one _ _ _ (@ps_ret _ _ _ _ (pv 3))))), ?_⟩
    have lw : ws.length = ps.length := prd_len pr
    refine ⟨(by show 0 ≤ sizeLine; decide), fun F H1 s1 F0 hF => ?_⟩
    refine ⟨_, rfl, l, rfl, ⟨_, SqL.of (s1 _ _ hL)⟩, for_list (xs := ws) (fun i σ G => ∃ (v4 v5 : Option V) (fs : List Int), σ = [some (.int n), some (.ref l), some (.ref z), some (.ref F), v4, v5] ∧ Same H G ∧ G F = some (.lst (fs.map V.int)) ∧ fs.length = i ∧ ∀ j, j < i → (∀ k, k < ps.length → fs.getD j 0 ≤ qs.getD k 0 + wgt n ps k j) ∧ ∃ k, k < ps.length ∧ fs.getD j 0 = qs.getD k 0 + wgt n ps k j) ?_ ?_ ?_ ?_⟩
    · exact ⟨_, _, [], rfl, s1, hF, rfl, fun j hj => absurd hj (Nat.not_lt_zero _)⟩
    · rintro i σ G _ ⟨v4, v5, fs, rfl, sG, _⟩
      exact SqL.of (sG _ _ hL)
    · rintro i x σ G hx ⟨v4, v5, fs, rfl, sG, hG, lf, inv⟩
      have hi : i < ps.length := by
        have := (List.getElem?_eq_some_iff.mp hx).1
        omega
      obtain ⟨x', hx', p1, rfl, hp1⟩ := prd_get pr (List.getElem?_eq_getElem hi)
      rw [hx] at hx'
      cases hx'
      have ei := getD_at hi
      have eL : (List.range ps.length).map (fun k => ws.getD k .non) = ws := by rw [← lw]; exact range_getD ws .non
      have eZ : (List.range ps.length).map (fun k => V.int (qs.getD k 0)) = qs.map V.int := by rw [← lq]; exact range_getI qs
      refine ⟨_, rfl, _, rfl, l, z, rfl, rfl, ⟨_, SqL.of (sG _ _ hL)⟩, ⟨_, SqL.of (sG _ _ hz)⟩, comp2_zipI (List.range ps.length) (fun k => ws.getD k .non) (fun k => V.int (qs.getD k 0)) (fun k => qs.getD k 0 + wgt n ps k i) (by rw [eL]; exact SqL.of (sG _ _ hL)) (by rw [eZ]; exact SqL.of (sG _ _ hz)) (fun k H' hk s Q2 h => ?_) (by rw [List.length_range]; exact fit1000 (by omega)) fun D H2 hD s2 h2 => ?_⟩
      · have hk := List.mem_range.mp hk
        obtain ⟨y, hy, p2, rfl, hp2⟩ := prd_get pr (List.getElem?_eq_getElem hk)
        have ew : ws.getD k .non = .ref p2 := by rw [List.getD_eq_getElem?_getD, hy]; rfl
        have S := sG.trans s
        refine ⟨_, rfl, _, rfl, _, congrArg some (congrArg some ew), _, rfl, p1, _, _, _, rfl, rfl, SqT.of (S _ _ hp1), rfl, n, p2, ps[k], ps[i].2, rfl, S _ _ hp2, hn, _, _, rfl, rfl, ?_⟩
        have := h H' (Same.refl _)
        unfold wgt at this
        rw [getD_at hk, ei] at this
        exact this
      have ne : (List.range ps.length).map (fun k => qs.getD k 0 + wgt n ps k i) ≠ [] := fun e => by
        have := congrArg List.length e
        rw [List.length_map, List.length_range] at this
        have : ps.length = 0 := this
        omega
      have sG2 := sG.trans s2
      refine ⟨_, rfl, .inl ⟨rfl, _, SqL.of (s2 _ _ hG)⟩, _, rfl, D, _, _, 0, rfl, SqL.of h2, prd_int _, ne, fun v hv => ?_⟩
      have bl := best_le (lt := fun a b : Int => decide (a < b)) (fun a => by simp) (fun a b c h1 h2 => by simp at h1 h2 ⊢; omega) (fun k => ((List.range ps.length).map (fun k => qs.getD k 0 + wgt n ps k i)).getD k 0) (((List.range ps.length).map (fun k => qs.getD k 0 + wgt n ps k i)).length - 1)
      have lt := best_lt (fun a b => decide (((List.range ps.length).map (fun k => qs.getD k 0 + wgt n ps k i)).getD a 0 < ((List.range ps.length).map (fun k => qs.getD k 0 + wgt n ps k i)).getD b 0)) (((List.range ps.length).map (fun k => qs.getD k 0 + wgt n ps k i)).length - 1)
      generalize argBest (fun a b => decide (((List.range ps.length).map (fun k => qs.getD k 0 + wgt n ps k i)).getD a 0 < ((List.range ps.length).map (fun k => qs.getD k 0 + wgt n ps k i)).getD b 0)) (((List.range ps.length).map (fun k => qs.getD k 0 + wgt n ps k i)).length - 1) = b at hv bl lt
      rw [List.length_map, List.length_range] at bl lt
      have gd : ∀ k, k < ps.length → ((List.range ps.length).map (fun k => qs.getD k 0 + wgt n ps k i)).getD k 0 = qs.getD k 0 + wgt n ps k i := fun k hk => by
        rw [mp_getD _ _ 0 (by rw [List.length_range]; exact hk)]
        simp [List.getD, List.getElem?_range hk]
      have hb : b < ps.length := by omega
      have ev : v = .int (qs.getD b 0 + wgt n ps b i) := by
        rw [List.getElem?_map, List.getElem?_map, List.getElem?_range hb] at hv
        exact (Option.some.inj hv).symm
      subst ev
      refine ⟨F, _, _, rfl, rfl, s2 _ _ hG, (by rw [List.length_map]; exact fit999 (by omega)), ?_⟩
      refine ⟨_, _, fs ++ [qs.getD b 0 + wgt n ps b i], rfl, sG2.upd F0, (by rw [upd_same, List.map_append]; rfl), (by rw [List.length_append, lf]; rfl), fun j hj => ?_⟩
      by_cases hj' : j < i
      · have e : (fs ++ [qs.getD b 0 + wgt n ps b i]).getD j 0 = fs.getD j 0 := by
          rw [List.getD_eq_getElem?_getD, List.getElem?_append_left (by omega), ← List.getD_eq_getElem?_getD]
        rw [e]
        exact inv j hj'
      · have ej : j = i := by omega
        subst ej
        have e : (fs ++ [qs.getD b 0 + wgt n ps b j]).getD j 0 = qs.getD b 0 + wgt n ps b j := by
          rw [List.getD_eq_getElem?_getD, List.getElem?_append_right (by omega)]
          simp [lf]
        rw [e]
        refine ⟨fun k hk => ?_, b, hb, rfl⟩
        have := bl k (by omega)
        rw [gd k hk, gd b hb] at this
        have := of_decide_eq_false this
        omega
    · rintro σ G ⟨v4, v5, fs, rfl, sG, hG, lf, inv⟩
      rw [lw] at lf inv
      exact ⟨_, rfl, q fs ⟨lf, fun i j hi hj => (inv j hj).1 i hi, fun j hj => (inv j hj).2⟩ F G F0 sG hG⟩
set_option maxHeartbeats 8000000 in
theorem ok_prices {f : Addr} {fd : FuncData} (F : Fun K "prices" "prices" s_prices f fd) (T : Txt K mg) (C_distance : Has P w K mg base 2 "distance" ["n", "one", "other"] (sp_distance w K)) (C_least_leading : HasX P w K mg base 5 "least_leading" ["n", "one", "other"] (sp_least_leading w K)) (C_lowered : Has P w K mg base 4 "lowered" ["n", "leading", "second_prices"] (sp_lowered w K)) : FnOk P w K mg base (CXE P w) 6 f fd ["n", "one", "other"] (sp_prices w K) := by
  refine F.okX sc_prices (fun vs H Q E h => ?_) (fun cdv A outer s H vs Q E hr h => ?_)
  · obtain ⟨n, p, fs, p', ds, rfl, hp, hp', tf, td, hn, n24, q⟩ := h
    rfl
  · obtain ⟨n, p, fs, p', ds, rfl, hp, hp', tf, td, hn, n24, q⟩ := h
    refine ⟨_, (@pss_cons _ _ _ _ _ (@ps_set _ _ 3 _ _ _ _ sc_prices.nd rfl (Or.inl rfl) (@pe_ix _ _ _ _ _ _ _ ix_tup (pe_callP (E := E) C_least_leading (hr.mono (by decide)) rfl (@pa_cons _ _ _ _ _ (pv 0) (@pa_cons _ _ _ _ _ (pv 1) (@pa_cons _ _ _ _ _ (pv 2) pa_nil (by rfl)) (by rfl)) (by rfl)) (goes_fn rfl ⟨rfl, rfl⟩ (fun _ _ z => z))) pe_int (fun _ _ => rfl)) (by rfl) (by first | exact Or.inl rfl | exact Or.inr rfl))
      (@pss_cons _ _ _ _ _ (@ps_set _ _ 4 _ _ _ _ sc_prices.nd rfl (Or.inl rfl) (@pe_op _ _ _ _ _ _ _ _ op_rep (pe_lstG (@pa_cons _ _ _ _ _ pe_int pa_nil (by rfl))) (pe_callB call_len_seq (by rfl) T.b_len PySem.boot_len (@pa_cons _ _ _ _ _ (pv 3) pa_nil (by rfl)))) (by rfl) (by first | exact Or.inl rfl | exact Or.inr rfl))
      (@pss_cons _ _ _ _ _ (ps_for PassesOwn.leaving rfl (pi_range1 rfl T.b_range (@pa_cons _ _ _ _ _ (pe_callB call_len_seq (by rfl) T.b_len PySem.boot_len (@pa_cons _ _ _ _ _ (pv 3) pa_nil (by rfl))) pa_nil (by rfl))) (pg_name (i := 5) sc_prices.nd rfl (Or.inl rfl))
        (@pss_one _ _ _ (@ps_set _ _ 4 _ _ _ _ sc_prices.nd rfl (Or.inl rfl) (@pe_callH _ _ _ _ _ _ _ _ _ _ C_lowered (hr.mono (by decide)) rfl (@pa_cons _ _ _ _ _ (pv 0) (@pa_cons _ _ _ _ _ (pv 3) (@pa_cons _ _ _ _ _ (pv 4) pa_nil (by rfl)) (by rfl)) (by rfl)) (by decide) (by rfl) (by rfl)) (by rfl) (by first | exact Or.inl rfl | exact Or.inr rfl))))
      (@pss_cons _ _ _ _ _ (@ps_set _ _ 6 _ _ _ _ sc_prices.nd rfl (Or.inr rfl) (pe_callTy (call_dictKK rfl) (by rfl) T.b_dict PyProof.Rows.Boot.«dict» (@pa_cons _ _ _ _ _ (pe_comp2 (ys := []) (js := []) ⟨by rfl, of_decide_eq_true (by kernel_rfl), of_decide_eq_true (by kernel_rfl), by rfl, by rfl, of_decide_eq_true (by kernel_rfl), of_decide_eq_true (by kernel_rfl), by rfl, of_decide_eq_true (by kernel_rfl)⟩ rfl (pi_zipL rfl T.b_zip (pv 3) (pv 4)) (fun _ _ _ _ _ => (pe_tupG (@pa_cons _ _ _ _ _ (@pe_ix _ _ _ _ _ _ _ (kix_tup (K := K) rfl) (pv 0) pe_int (fun _ _ => rfl)) (@pa_cons _ _ _ _ _ (pv 1) pa_nil (by rfl)) (by rfl))))) pa_nil (by rfl))) (by rfl) (by first | exact Or.inl rfl | exact Or.inr rfl))
      (@pss_cons _ _ _ _ _ (@ps_set _ _ 7 _ _ _ _ sc_prices.nd rfl (Or.inl rfl) (pe_callTy call_tuple_of (by rfl) T.b_tuple PyProof.Rows.boot_tuple (@pa_cons _ _ _ _ _ (pe_comp2 (ys := ["n", "price_of"]) (js := [0, 6]) ⟨by rfl, of_decide_eq_true (by kernel_rfl), of_decide_eq_true (by kernel_rfl), by rfl, by rfl, of_decide_eq_true (by kernel_rfl), of_decide_eq_true (by kernel_rfl), by rfl, of_decide_eq_true (by kernel_rfl)⟩ rfl (pi_list (pv 3)) (fun _ _ _ _ _ => (@pe_op _ _ _ _ _ _ _ _ op_sub (@pe_callH _ _ _ _ _ _ _ _ _ _ C_distance (hr.mono (by decide)) rfl (@pa_cons _ _ _ _ _ (pv 2) (@pa_cons _ _ _ _ _ (pv 0) (@pa_cons _ _ _ _ _ (pv 1) pa_nil (by rfl)) (by rfl)) (by rfl)) (by decide) (by rfl) (by rfl)) (@pe_kget _ _ _ _ _ _ (pv 3) (pv 1) (fun _ _ => rfl))))) pa_nil (by rfl))) (by rfl) (by first | exact Or.inl rfl | exact Or.inr rfl))
      (@pss_one _ _ _ (@ps_ret _ _ _ _ (pe_tupG (@pa_cons _ _ _ _ _ (pv 7) (@pa_cons _ _ _ _ _ (pe_callTy call_tuple_of (by rfl) T.b_tuple PyProof.Rows.boot_tuple (@pa_cons _ _ _ _ _ (pe_comp (ys := ["price_of"]) (js := [6]) ⟨by rfl, of_decide_eq_true (by kernel_rfl), of_decide_eq_true (by kernel_rfl), by rfl, of_decide_eq_true (by kernel_rfl), of_decide_eq_true (by kernel_rfl), by rfl, of_decide_eq_true (by kernel_rfl)⟩ rfl (pi_tup (pv 2)) (fun _ _ _ _ _ => pts_nil) (fun _ _ _ _ _ => (@pe_kget _ _ _ _ _ _ (pv 1) (pv 0) (fun _ _ => rfl)))) pa_nil (by rfl))) pa_nil (by rfl)) (by rfl)))))))))), ?_⟩
    rcases q with ⟨hl, q⟩ | ⟨hne, q⟩
    rotate_left
    · exact ⟨_, rfl, _, rfl, _, rfl, n, p, fs, p', ds, rfl, hp, hp', tf, td, hn, n24, .inr ⟨hne, fun H1 s1 C hC => q H1 s1 C hC⟩⟩
    refine ⟨_, rfl, _, rfl, _, rfl, n, p, fs, p', ds, rfl, hp, hp', tf, td, hn, n24, .inl ⟨hl, fun ls lst r l ws H1 s1 l0 h1 hl1 pr1 => ?_⟩⟩
    have d24 := td.len
    have lls := lst_len lst
    have lw : ws.length = ls.length := prd_len pr1
    refine ⟨r, _, _, _, rfl, rfl, SqT.of h1, rfl, ?_⟩
    refine ⟨(by show 1 ≤ sizeLine; decide), fun z0 H2 s2 z00 hz0 => ⟨_, rfl, l, _, rfl, .inl (SqL.of (s2 _ _ hl1)), z0, _, _, rfl, rfl, hz0, by omega, by omega, ?_, fun z z1 => ?_⟩⟩
    · have : ([V.int 0] : List V).length * ((ws.length : Int)).toNat = ws.length := by simp
      rw [this]
      exact fit1000 (by omega)
    have ez : (List.replicate ((ws.length : Int)).toNat [V.int 0]).flatten = (List.replicate ls.length (0 : Int)).map V.int := by
      rw [Int.toNat_natCast, lw, List.map_replicate]
      have gen : ∀ k, (List.replicate k [V.int 0]).flatten = List.replicate k (V.int 0) := fun k => by
        induction k with
        | zero => rfl
        | succ k ih => rw [List.replicate_succ, List.flatten_cons, ih]; rfl
      exact gen _
    rw [ez]
    obtain ⟨s3, hz⟩ := new_all (o := .lst ((List.replicate ls.length (0 : Int)).map V.int)) z1
    generalize upd H2 z (.lst ((List.replicate ls.length (0 : Int)).map V.int)) = H3 at s3 hz ⊢
    have S3 := s2.trans s3
    have hl3 := S3 _ _ hl1
    have pr3 := ld_same S3 pr1
    refine ⟨_, rfl, l, _, rfl, .inl (SqL.of hl3), _, rfl, by omega, by omega, for_range (fun t σ G => ∃ (v5 : Option V) (z : Addr) (ps : List Int), σ = [some (.int n), some (.ref p), some (.ref p'), some (.ref l), some (.ref z), v5, none, none] ∧ Same H3 G ∧ G z = some (.lst (ps.map V.int)) ∧ Rnds n ls t ps) ?_ ?_ ?_⟩
    · exact ⟨_, z, _, rfl, Same.refl _, hz, .zero (List.length_replicate ..) fun j => by
        rw [List.getD_eq_getElem?_getD, List.getElem?_replicate]
        split <;> rfl⟩
    · rintro t σ G ht ⟨v5, z, ps, rfl, sG, hz, rn⟩
      exact ⟨_, rfl, _, rfl, _, rfl, n, l, ws, ls, z, ps, rfl, sG _ _ hl3, ld_same sG pr3, hz, rn.len, by omega, hn, fun rs rd r2 H' r20 s' h' => ⟨_, r2, rs, rfl, sG.trans s', h', .succ rn rd⟩⟩
    rintro σ G ⟨v5, z, ps, rfl, sG, hz, rn⟩
    rw [Int.toNat_natCast, lw] at rn
    have pc := prc_of lst rn
    have lps := pc.len
    have hlG := sG _ _ hl3
    have prG := ld_same sG pr3
    have eL : (List.range ls.length).map (fun k => ws.getD k .non) = ws := by rw [← lw]; exact range_getD ws .non
    have eZ : (List.range ls.length).map (fun k => V.int (ps.getD k 0)) = ps.map V.int := by rw [← lps]; exact range_getI ps
    refine ⟨_, rfl, _, rfl, l, z, rfl, rfl, ⟨_, SqL.of hlG⟩, ⟨_, SqL.of hz⟩, comp2_zip (List.range ls.length) (fun k => ws.getD k .non) (fun k => V.int (ps.getD k 0)) (fun k => ((Sum.inl (ls.getD k (0, 0)).2 : Key), V.int (ps.getD k 0))) KPair (fun _ _ _ _ t r => r.mono t) (by rw [eL]; exact SqL.of hlG) (by rw [eZ]; exact SqL.of hz) (fun k H' hk s Q2 h => ?_) (by rw [List.length_range]; exact fit1000 (by omega)) fun D us H4 hD s4 hL4 pr4 => ?_⟩
    · have hk := List.mem_range.mp hk
      obtain ⟨y, hy, p2, rfl, hp2⟩ := prd_get prG (List.getElem?_eq_getElem hk)
      have ew : ws.getD k .non = .ref p2 := by rw [List.getD_eq_getElem?_getD, hy]; rfl
      refine ⟨_, congrArg some (congrArg some ew), p2, _, _, _, rfl, rfl, SqT.of (s _ _ hp2), rfl, _, rfl, two_fit, fun r H5 s5 h5 => h _ H5 s5 ⟨r, rfl, ?_⟩⟩
      rw [getD_at hk]
      exact h5
    have lk : (kvI ls ps).length ≤ 1000 := by unfold kvI; rw [List.length_map, List.length_range]; omega
    refine ⟨D, us, kvI ls ps, rfl, hL4, pr4, lk, kvI_nd lst.ok ps, fun d H5 s5 d0 h5 => ?_⟩
    have sG5 := s4.trans s5
    have hl5 := sG5 _ _ hlG
    have pr5 := ld_same sG5 prG
    refine ⟨_, rfl, l, rfl, ⟨_, SqL.of hl5⟩, comp2_int ws ls (fun c => .int c.1) (fun c => .int c.2) (fun c => dist n c.1 c.2 - prOf ls ps c.2) (SqL.of hl5) pr5 (fun c H' hc s Q2 h => ?_) (fit1000 (by omega)) fun D2 H6 D20 s6 hD2 => ?_⟩
    · obtain ⟨k, hk, ek⟩ := List.getElem_of_mem hc
      have at_ := atK_kvI lst.ok ps hk
      have pe := prOf_at lst.ok ps hk
      rw [getD_at hk, ek] at at_ pe
      rw [← pe] at at_
      exact ⟨_, rfl, _, rfl, _, rfl, n, c.1, c.2, rfl, hn, _, rfl, _, rfl, d, Sum.inl c.2, _, _, rfl, rfl, s _ _ h5, at_, _, _, rfl, rfl, h H' (Same.refl _)⟩
    refine ⟨D2, _, rfl, .inl ⟨SqL.of hD2, fun t t0 => ?_⟩⟩
    obtain ⟨s7, h7⟩ := new_all (o := .tup ((ls.map fun c => dist n c.1 c.2 - prOf ls ps c.2).map V.int)) t0
    generalize upd H6 t (.tup ((ls.map fun c => dist n c.1 c.2 - prOf ls ps c.2).map V.int)) = H7 at s7 h7 ⊢
    have S7 := (((s1.trans S3).trans sG).trans sG5).trans (s6.trans s7)
    have d7 := (s6.trans s7) _ _ h5
    refine ⟨_, rfl, _, rfl, p', rfl, ⟨_, SqT.of (S7 _ _ hp')⟩, comp_int ds V.int (fun _ => true) (prOf ls ps) (it_tup ds V.int (SqT.of (S7 _ _ hp'))) (fun b H' _ _ Q2 h => h H' (Same.refl _)) (fun b H' hb _ s Q2 h => ?_) (fit1000 (by omega)) fun D3 H8 D30 s8 hD3 => ?_⟩
    · have mem : b ∈ ls.map (·.2) := lst.snd.mem_iff.mpr hb
      obtain ⟨c, hc, ec⟩ := List.mem_map.mp mem
      obtain ⟨k, hk, ek⟩ := List.getElem_of_mem hc
      have at_ := atK_kvI lst.ok ps hk
      have pe := prOf_at lst.ok ps hk
      rw [getD_at hk, ek, ec] at at_ pe
      rw [← pe] at at_
      exact ⟨_, rfl, _, rfl, d, Sum.inl b, _, _, rfl, rfl, s _ _ d7, at_, h H' (Same.refl _)⟩
    rw [filter_all] at hD3
    refine ⟨D3, _, rfl, .inl ⟨SqL.of hD3, fun t2 t20 => ⟨two_fit, fun r2 H9 s9 h9 => ?_⟩⟩⟩
    have sN := Same.new (o := .tup ((ds.map (prOf ls ps)).map V.int)) t20
    exact q ls ps lst pc r2 t t2 H9 (((S7.trans s8).trans sN).trans s9) h9 (s9 _ _ (sN _ _ (s8 _ _ h7))) (s9 _ _ upd_same)
set_option maxHeartbeats 8000000 in
theorem ok_l_cell_at {f : Addr} {fd : FuncData} (F : Fun K "_law_cell_at" "_law_cell_at" s_l_cell_at f fd) (T : Txt K mg)  : FnOk P w K mg base CX0 1 f fd ["_law_script", "_law_k"] (sp_l_cell_at w K) := by
  refine F.ok sc_l_cell_at (fun vs H Q E h => ?_) (fun cdv A outer s H vs Q E hr h => ?_)
  · obtain ⟨a, ns, k, rfl, hS, hl, q⟩ := h
    rfl
  · obtain ⟨a, ns, k, rfl, hS, hl, q⟩ := h
    refine ⟨_, (@pss_cons _ _ _ _ _ (@ps_if _ _ _ _ _ _ _ _ (@pt_cmpR _ _ _ _ _ _ _ _ op_eq (pe_callB call_len_seq (by rfl) T.b_len PySem.boot_len (@pa_cons _ _ _ _ _ (pv 0) pa_nil (by rfl))) pe_int (nomark _))
        (@pss_one _ _ _ (@ps_ret _ _ _ _ pe_int))
        pss_nil)
      (@pss_one _ _ _ (@ps_ret _ _ _ _ (@pe_ix _ _ _ _ _ _ _ ix_list (pv 0) (@pe_op _ _ _ _ _ _ _ _ op_mod (pv 1) (pe_callB call_len_seq (by rfl) T.b_len PySem.boot_len (@pa_cons _ _ _ _ _ (pv 0) pa_nil (by rfl)))) (fun _ _ => rfl))))), ?_⟩
    have hlen : (ns.map V.int).length = ns.length := List.length_map _
    refine ⟨_, rfl, a, _, rfl, .inl hS, rfl, _, rfl, ?_⟩
    refine if2 (fun _ => q 0) (fun e => ?_)
    have e := of_eqF e
    have hp : (0 : Int) < ((ns.map V.int).length : Int) := by omega
    obtain ⟨c, _, hc⟩ := atI_int (ns := ns) (i := k % ((ns.map V.int).length : Int)) (mod_lo _ hp) (by rw [← hlen]; exact mod_hi _ hp)
    exact ⟨_, rfl, _, rfl, _, rfl, a, _, rfl, .inl hS, _, _, rfl, rfl, hp, a, _, _, _, rfl, rfl, hS, hc, q c⟩
set_option maxHeartbeats 8000000 in
theorem ok_l_mixed {f : Addr} {fd : FuncData} (F : Fun K "_law_mixed" "_law_mixed" s_l_mixed f fd) (T : Txt K mg) (C_l_cell_at : Has P w K mg base 1 "_law_cell_at" ["_law_script", "_law_k"] (sp_l_cell_at w K)) : FnOk P w K mg base CX0 2 f fd ["_law_script", "_law_k", "_law_salt"] (sp_l_mixed w K) := by
  refine F.ok sc_l_mixed (fun vs H Q E h => ?_) (fun cdv A outer s H vs Q E hr h => ?_)
  · obtain ⟨a, ns, k, z, rfl, hS, hl, ⟨k0, k1⟩, ⟨z0, z1⟩, q⟩ := h
    rfl
  · obtain ⟨a, ns, k, z, rfl, hS, hl, ⟨k0, k1⟩, ⟨z0, z1⟩, q⟩ := h
    refine ⟨_, (@pss_cons _ _ _ _ _ (@ps_set _ _ 3 _ _ _ _ sc_l_mixed.nd rfl (Or.inl rfl) (@pe_callH _ _ _ _ _ _ _ _ _ _ C_l_cell_at (hr.mono (by decide)) rfl (@pa_cons _ _ _ _ _ (pv 0) (@pa_cons _ _ _ _ _ (pv 1) pa_nil (by rfl)) (by rfl)) (by decide) (by rfl) (by rfl)) (by rfl) (by first | exact Or.inl rfl | exact Or.inr rfl))
      (@pss_cons _ _ _ _ _ (@ps_set _ _ 4 _ _ _ _ sc_l_mixed.nd rfl (Or.inl rfl) (@pe_op _ _ _ _ _ _ _ _ op_fdiv (pv 1) (pe_callB (call_max2 rfl) (by rfl) T.b_max PyProof.Rows.boot_max (@pa_cons _ _ _ _ _ pe_int (@pa_cons _ _ _ _ _ (pe_callB call_len_seq (by rfl) T.b_len PySem.boot_len (@pa_cons _ _ _ _ _ (pv 0) pa_nil (by rfl))) pa_nil (by rfl)) (by rfl)))) (by rfl) (by first | exact Or.inl rfl | exact Or.inr rfl))
      (@pss_cons _ _ _ _ _ (@ps_set _ _ 5 _ _ _ _ sc_l_mixed.nd rfl (Or.inl rfl) (@pe_op _ _ _ _ _ _ _ _ op_add (@pe_op _ _ _ _ _ _ _ _ op_add (@pe_op _ _ _ _ _ _ _ _ op_add (@pe_op _ _ _ _ _ _ _ _ op_and (pv 3) pe_int) (@pe_op _ _ _ _ _ _ _ _ op_mul (@pe_op _ _ _ _ _ _ _ _ op_mul pe_int (pv 1)) (pv 1))) (@pe_op _ _ _ _ _ _ _ _ op_mul (@pe_op _ _ _ _ _ _ _ _ op_mul pe_int (pv 2)) (pv 2))) pe_int) (by rfl) (by first | exact Or.inl rfl | exact Or.inr rfl))
      (@pss_cons _ _ _ _ _ (@ps_set _ _ 5 _ _ _ _ sc_l_mixed.nd rfl (Or.inl rfl) (@pe_op _ _ _ _ _ _ _ _ op_mod (@pe_op _ _ _ _ _ _ _ _ op_mul (pv 5) pe_int) pe_int) (by rfl) (by first | exact Or.inl rfl | exact Or.inr rfl))
      (@pss_cons _ _ _ _ _ (@ps_set _ _ 5 _ _ _ _ sc_l_mixed.nd rfl (Or.inl rfl) (@pe_op _ _ _ _ _ _ _ _ op_mod (@pe_op _ _ _ _ _ _ _ _ op_mul (pv 5) (pv 5)) pe_int) (by rfl) (by first | exact Or.inl rfl | exact Or.inr rfl))
      (@pss_one _ _ _ (@ps_ret _ _ _ _ (@pe_op _ _ _ _ _ _ _ _ op_and (@pe_op _ _ _ _ _ _ _ _ op_add (@pe_op _ _ _ _ _ _ _ _ op_shr (pv 3) (@pe_op _ _ _ _ _ _ _ _ op_mul pe_int (@pe_op _ _ _ _ _ _ _ _ op_add (pv 2) (@pe_op _ _ _ _ _ _ _ _ op_mul pe_int (pv 4))))) (pv 5)) pe_int)))))))), ?_⟩
    have hlen : (ns.map V.int).length = ns.length := List.length_map _
    -- cell
    refine ⟨_, rfl, _, rfl, a, ns, k, rfl, hS, hl, fun c => ?_⟩
    -- lap
    have hm : CDiv k (if (((ns.map V.int).length : Nat) : Int) > 1 then (((ns.map V.int).length : Nat) : Int) else 1) := by
      show 0 < (if (((ns.map V.int).length : Nat) : Int) > 1 then (((ns.map V.int).length : Nat) : Int) else 1) ∧ (if (((ns.map V.int).length : Nat) : Int) > 1 then (((ns.map V.int).length : Nat) : Int) else 1) < 1073741824
      rw [hlen]
      split <;> omega
    refine ⟨_, rfl, _, rfl, a, _, rfl, .inl hS, _, _, rfl, _, _, rfl, rfl, hm, ?_⟩
    have lap0 : 0 ≤ k / (if (((ns.map V.int).length : Nat) : Int) > 1 then (((ns.map V.int).length : Nat) : Int) else 1) := Int.ediv_nonneg k0 (Int.le_of_lt hm.1)
    -- near
    refine ⟨_, rfl, _, _, rfl, rfl, _, rfl, _, _, rfl, rfl, .inl ⟨by decide, by decide⟩, _, rfl, _, _, rfl, rfl, .inr ⟨by omega, by omega⟩, _, _, rfl, rfl, _, rfl, _, _, rfl, rfl, .inl ⟨by decide, by decide⟩, _, rfl, _, _, rfl, rfl, .inr ⟨by omega, by omega⟩, _, _, rfl, rfl, _, _, rfl, rfl, ?_⟩
    refine ⟨_, rfl, _, _, rfl, rfl, .inr ⟨by decide, by decide⟩, _, _, rfl, rfl, (by show (0 : Int) < 2147483647; decide), ?_⟩
    refine ⟨_, rfl, _, rfl, _, _, rfl, rfl, .inl ⟨by omega, by omega⟩, _, _, rfl, rfl, (by show (0 : Int) < 2147483629; decide), ?_⟩
    -- the answer
    refine ⟨_, rfl, _, rfl, _, rfl, _, _, rfl, rfl, .inl ⟨by decide, by decide⟩, _, _, rfl, rfl, _, _, rfl, rfl, .inl ⟨by decide, by decide⟩, _, _, rfl, rfl, (by omega), _, rfl, _, _, rfl, rfl, _, _, rfl, rfl, ?_⟩
    exact q _ (by rw [mask31 (_ + _)]; exact mod_lo _ (by decide)) (by rw [mask31 (_ + _)]; exact mod_hi _ (by decide))
set_option maxHeartbeats 8000000 in
theorem ok_l_wheel {f : Addr} {fd : FuncData} (F : Fun K "_law_wheel" "_law_wheel" s_l_wheel f fd) (T : Txt K mg) (C_l_mixed : Has P w K mg base 2 "_law_mixed" ["_law_script", "_law_k", "_law_salt"] (sp_l_mixed w K)) : FnOk P w K mg base CX0 3 f fd ["_law_script", "_law_most"] (sp_l_wheel w K) := by
  refine F.ok sc_l_wheel (fun vs H Q E h => ?_) (fun cdv A outer s H vs Q E hr h => ?_)
  · obtain ⟨a, ns, rfl, hS, hl, q⟩ := h
    rfl
  · obtain ⟨a, ns, rfl, hS, hl, q⟩ := h
    refine ⟨_, (@pss_one _ _ _ (@ps_ret _ _ _ _ (@pe_op _ _ _ _ _ _ _ _ op_add pe_int (@pe_op _ _ _ _ _ _ _ _ op_mod (@pe_callH _ _ _ _ _ _ _ _ _ _ C_l_mixed (hr.mono (by decide)) rfl (@pa_cons _ _ _ _ _ (pv 0) (@pa_cons _ _ _ _ _ pe_int (@pa_cons _ _ _ _ _ pe_int pa_nil (by rfl)) (by rfl)) (by rfl)) (by decide) (by rfl) (by rfl)) (@pe_op _ _ _ _ _ _ _ _ op_sub (pv 1) pe_int))))), ?_⟩
    refine ⟨_, rfl, a, ns, 0, 1, rfl, hS, hl, ⟨by decide, by decide⟩, ⟨by decide, by decide⟩, fun c c0 c1 => ?_⟩
    refine ⟨_, rfl, _, _, rfl, rfl, _, _, rfl, rfl, (by show (0 : Int) < 24 - 2; decide), _, _, rfl, rfl, ?_⟩
    have h0 := mod_lo c (n := 24 - 2) (by decide)
    have h1 := mod_hi c (n := 24 - 2) (by decide)
    exact q _ (by omega) (by omega)
set_option maxHeartbeats 8000000 in
theorem ok_l_row {f : Addr} {fd : FuncData} (F : Fun K "_law_row" "_law_row" s_l_row f fd) (T : Txt K mg) (C_l_mixed : Has P w K mg base 2 "_law_mixed" ["_law_script", "_law_k", "_law_salt"] (sp_l_mixed w K)) : FnOk P w K mg base CX0 3 f fd ["_law_script", "_law_k", "_law_salt", "_law_n"] (sp_l_row w K) := by
  refine F.ok sc_l_row (fun vs H Q E h => ?_) (fun cdv A outer s H vs Q E hr h => ?_)
  · obtain ⟨a, ns, k, z, n, rfl, hS, hl, ⟨k0, k1⟩, ⟨z0, z1⟩, n0, n24, q⟩ := h
    rfl
  · obtain ⟨a, ns, k, z, n, rfl, hS, hl, ⟨k0, k1⟩, ⟨z0, z1⟩, n0, n24, q⟩ := h
    refine ⟨_, (@pss_cons _ _ _ _ _ (@ps_set _ _ 4 _ _ _ _ sc_l_row.nd rfl (Or.inl rfl) (pe_callTy (call_list_rng rfl) (by rfl) T.b_list PyProof.Rows.boot_list (@pa_cons _ _ _ _ _ (pe_callTy call_range1 (by rfl) T.b_range PyProof.Rows.boot_range (@pa_cons _ _ _ _ _ (pv 3) pa_nil (by rfl))) pa_nil (by rfl))) (by rfl) (by first | exact Or.inl rfl | exact Or.inr rfl))
      (@pss_cons _ _ _ _ _ (@ps_set _ _ 5 _ _ _ _ sc_l_row.nd rfl (Or.inl rfl) (@pe_lst _ _ _ _ pa_nil) (by rfl) (by first | exact Or.inl rfl | exact Or.inr rfl))
      (@pss_cons _ _ _ _ _ (ps_for PassesOwn.never rfl (pi_range1 rfl T.b_range (@pa_cons _ _ _ _ _ (pv 3) pa_nil (by rfl))) (pg_name (i := 6) sc_l_row.nd rfl (Or.inl rfl))
        (@pss_one _ _ _ (ps_expr (pe_bm PySem.F.plainAttrs_list PySem.F.slot_list_append PySem.F.type_list_append mt_append (pv 5) (@pa_cons _ _ _ _ _ (pe_bm PySem.F.plainAttrs_list PySem.F.slot_list_pop PySem.F.type_list_pop mt_popAt (pv 4) (@pa_cons _ _ _ _ _ (@pe_op _ _ _ _ _ _ _ _ op_mod (@pe_callH _ _ _ _ _ _ _ _ _ _ C_l_mixed (hr.mono (by decide)) rfl (@pa_cons _ _ _ _ _ (pv 0) (@pa_cons _ _ _ _ _ (@pe_op _ _ _ _ _ _ _ _ op_add (pv 1) (pv 6)) (@pa_cons _ _ _ _ _ (pv 2) pa_nil (by rfl)) (by rfl)) (by rfl)) (by decide) (by rfl) (by rfl)) (pe_callB call_len_seq (by rfl) T.b_len PySem.boot_len (@pa_cons _ _ _ _ _ (pv 4) pa_nil (by rfl)))) pa_nil (by rfl))) pa_nil (by rfl))))))
      (@pss_one _ _ _ (@ps_ret _ _ _ _ (pe_callTy call_tuple_of (by rfl) T.b_tuple PyProof.Rows.boot_tuple (@pa_cons _ _ _ _ _ (pv 5) pa_nil (by rfl)))))))), ?_⟩
    refine ⟨_, rfl, n, rfl, fun q1 h1 => ⟨q1, 0, n, rfl, upd_same, ⟨by decide, by decide, by omega, by omega, by omega⟩, fun L L0 => ?_⟩⟩
    rw [rngL0]
    have sL : Same H (upd (upd H q1 (.rng 0 n)) L (.lst ((rng n).map V.int))) := (Same.new h1).trans (Same.new L0)
    refine ⟨(by show 0 ≤ sizeLine; decide), fun R R0 => ?_⟩
    have LR : L ≠ R := ne_of_none upd_same R0
    have hL0 : H L = none := (Same.new h1).free L0
    have hR0 : H R = none := sL.free R0
    refine ⟨_, rfl, n, rfl, by omega, by omega, for_range (fun i σ H2 => ∃ (v : Option V) (ls rs : List Int), σ = [some (.ref a), some (.int k), some (.int z), some (.int n), some (.ref L), some (.ref R), v] ∧ Same H H2 ∧ H2 L = some (.lst (ls.map V.int)) ∧ H2 R = some (.lst (rs.map V.int)) ∧ (rs ++ ls).Perm (rng n) ∧ rs.length = i) ?_ ?_ ?_⟩
    · exact ⟨_, rng n, [], rfl, sL.trans (Same.new R0), by rw [upd_ne LR]; exact upd_same, upd_same, List.Perm.refl _, rfl⟩
    · rintro i σ H2 hi ⟨v, ls, rs, rfl, s2, hL, hR, pm, hl2⟩
      have hlen : ls.length = n.toNat - i := by
        have := pm.length_eq
        rw [List.length_append, rng_len] at this
        omega
      have hll : ((ls.map V.int).length : Int) = (n.toNat - i : Nat) := by rw [List.length_map, hlen]
      refine ⟨_, rfl, .inl ⟨rfl, _, SqL.of hR⟩, _, rfl, .inl ⟨rfl, _, SqL.of hL⟩, ?_⟩
      refine ⟨_, rfl, _, rfl, _, rfl, _, _, rfl, rfl, _, rfl, a, ns, _, _, rfl, s2.seq hS, hl, ⟨by omega, by omega⟩, ⟨by omega, by omega⟩, fun c c0 c1 => ?_⟩
      have hp : (0 : Int) < ((ls.map V.int).length : Int) := by omega
      refine ⟨_, rfl, L, _, rfl, .inl (SqL.of hL), _, _, rfl, rfl, hp, ?_⟩
      have j0 := mod_lo c hp
      have j1 := mod_hi c hp
      dsimp only
      generalize c % ((ls.map V.int).length : Int) = j at j0 j1
      have hj : j.toNat < ls.length := by omega
      refine ⟨L, ls.map V.int, j, j.toNat, .int ls[j.toNat], rfl, rfl, hL, by omega, by omega, ?_, ?_, ?_⟩
      · have jl : j < ((ls.map V.int).length : Int) := by omega
        exact seq_ix j0 jl
      · rw [List.getElem?_map, List.getElem?_eq_getElem hj]; rfl
      · refine ⟨R, _, _, rfl, rfl, by rw [upd_ne (Ne.symm LR)]; exact hR, ?_, ?_⟩
        · rw [List.length_map]; exact fit999 (by omega)
        · refine ⟨_, ls.eraseIdx j.toNat, rs ++ [ls[j.toNat]], rfl, ?_, ?_, ?_, ?_, ?_⟩
          · exact Same.upd (Same.upd s2 hL0) hR0
          · rw [upd_ne LR, upd_same]
            exact congrArg (fun z => some (HO.lst z)) (erase_map V.int ls j.toNat)
          · rw [upd_same]
            exact congrArg (fun z => some (HO.lst z)) (by rw [List.map_append]; rfl)
          · refine List.Perm.trans ?_ pm
            rw [List.append_assoc]
            refine List.Perm.append_left rs ?_
            exact STab.perm_pick (List.getElem?_eq_getElem hj)
          · rw [List.length_append, hl2]; rfl
    · rintro σ H2 ⟨v, ls, rs, rfl, s2, hL, hR, pm, hl2⟩
      have hlen : ls = [] := by
        have := pm.length_eq
        rw [List.length_append, rng_len] at this
        exact List.length_eq_zero_iff.mp (by omega)
      rw [hlen, List.append_nil] at pm
      exact ⟨_, rfl, R, _, rfl, .inl ⟨SqL.of hR, fun r r0 => q rs pm r _ (s2.trans (Same.new r0)) upd_same⟩⟩
set_option maxHeartbeats 8000000 in
theorem ok_l_sized {f : Addr} {fd : FuncData} (F : Fun K "_law_sized" "_law_sized" s_l_sized f fd) (T : Txt K mg) (C_l_row : Has P w K mg base 3 "_law_row" ["_law_script", "_law_k", "_law_salt", "_law_n"] (sp_l_row w K)) : FnOk P w K mg base CX0 4 f fd ["_law_script", "_law_k", "_law_salt", "_law_n", "_law_size"] (sp_l_sized w K) := by
  refine F.ok sc_l_sized (fun vs H Q E h => ?_) (fun cdv A outer s H vs Q E hr h => ?_)
  · obtain ⟨a, ns, k, z, n, m, rfl, hS, hl, ⟨k0, k1⟩, ⟨z0, z1⟩, n0, n24, m0, mn, q⟩ := h
    rfl
  · obtain ⟨a, ns, k, z, n, m, rfl, hS, hl, ⟨k0, k1⟩, ⟨z0, z1⟩, n0, n24, m0, mn, q⟩ := h
    refine ⟨_, (@pss_one _ _ _ (@ps_ret _ _ _ _ (pe_callTy call_tuple_of (by rfl) T.b_tuple PyProof.Rows.boot_tuple (@pa_cons _ _ _ _ _ (pe_callB (call_sorted_i rfl) (by rfl) T.b_sorted PyProof.Rows.boot_sorted (@pa_cons _ _ _ _ _ (pe_slice sl_tupS (@pe_callH _ _ _ _ _ _ _ _ _ _ C_l_row (hr.mono (by decide)) rfl (@pa_cons _ _ _ _ _ (pv 0) (@pa_cons _ _ _ _ _ (pv 1) (@pa_cons _ _ _ _ _ (pv 2) (@pa_cons _ _ _ _ _ (pv 3) pa_nil (by rfl)) (by rfl)) (by rfl)) (by rfl)) (by decide) (by rfl) (by rfl)) po_none (po_some (pv 4))) pa_nil (by rfl))) pa_nil (by rfl))))), ?_⟩
    refine ⟨_, rfl, _, rfl, _, rfl, _, rfl, a, ns, k, z, n, rfl, hS, hl, ⟨by omega, by omega⟩, ⟨by omega, by omega⟩, n0, n24, fun xs pm r H1 s1 h1 => ?_⟩
    refine ⟨_, rfl, m, rfl, r, _, rfl, h1, fun p H2 s2 h2 => ?_⟩
    have e1 : cutV (xs.map V.int) none (some m) = (xs.take m.toNat).map V.int := by
      have : m = ((m.toNat : Nat) : Int) := by omega
      rw [this, cut_front, List.map_take, Int.toNat_natCast]
    rw [e1] at h2
    have lx : xs.length = n.toNat := by rw [pm.length_eq, rng_len]
    refine ⟨p, _, rfl, ?_, .inr (.inl (SqT.of h2)), fun l ls l0 pm2 pw => ?_⟩
    · rw [List.length_take]; omega
    have nd : ls.Nodup := pm2.nodup_iff.mpr ((List.take_sublist _ _).nodup (pm.nodup_iff.mpr ((rng_pw n).imp fun h => Int.ne_of_lt h)))
    have hb : ∀ x ∈ ls, 0 ≤ x ∧ x < n := fun x hx => rng_mem.mp (pm.mem_iff.mp (List.mem_of_mem_take (pm2.mem_iff.mp hx)))
    have e := cw_of (lt_of_le_nodup pw nd) hb
    have el : (ls.length : Int) = m := by
      rw [pm2.length_eq, List.length_take, lx]; omega
    refine ⟨l, _, rfl, .inl ⟨SqL.of upd_same, fun r2 r20 => q _ (by rw [← e]; exact el) r2 _ ((s1.trans s2).trans ((Same.new l0).trans (Same.new r20))) (by rw [← e]; exact upd_same)⟩⟩
set_option maxHeartbeats 8000000 in
theorem ok_l_whole {f : Addr} {fd : FuncData} (F : Fun K "_law_whole" "_law_whole" s_l_whole f fd) (T : Txt K mg)  : FnOk P w K mg base CX0 1 f fd ["_law_found"] (sp_l_whole w K) := by
  refine F.ok sc_l_whole (fun vs H Q E h => ?_) (fun cdv A outer s H vs Q E hr h => ?_)
  · obtain ⟨i, rfl, q⟩ := h
    rfl
  · obtain ⟨i, rfl, q⟩ := h
    refine ⟨_, (@pss_one _ _ _ (@ps_ret _ _ _ _ (pe_and (pe_callB call_isinst (by rfl) T.b_isinstance PyProof.Rows.boot_isinstance (@pa_cons _ _ _ _ _ (pv 0) (@pa_cons _ _ _ _ _ (pe_bltn (v := V.ty "int") (by rfl) T.b_int PyProof.Rows.boot_int rfl) pa_nil (by rfl)) (by rfl))) (pe_one (pe_not (pe_callB call_isinst (by rfl) T.b_isinstance PyProof.Rows.boot_isinstance (@pa_cons _ _ _ _ _ (pv 0) (@pa_cons _ _ _ _ _ (pe_bltn (v := V.ty "bool") (by rfl) T.b_bool PyProof.Rows.boot_bool rfl) pa_nil (by rfl)) (by rfl)))))))), ?_⟩
    exact ⟨_, rfl, _, "int", _, _, rfl, .int _, kit_same K _, true, rfl, ifp rfl ⟨_, rfl, _, "bool", _, _, rfl, .int _, kit_int_bool K, false, rfl, q⟩⟩
set_option maxHeartbeats 8000000 in
theorem ok_l_move {f : Addr} {fd : FuncData} (F : Fun K "_law_move" "_law_move" s_l_move f fd) (T : Txt K mg)  : FnOk P w K mg base CX0 1 f fd ["_law_n", "_law_one", "_law_other"] (sp_l_move w K) := by
  refine F.ok sc_l_move (fun vs H Q E h => ?_) (fun cdv A outer s H vs Q E hr h => ?_)
  · obtain ⟨n, a, b, rfl, hn, q⟩ := h
    rfl
  · obtain ⟨n, a, b, rfl, hn, q⟩ := h
    refine ⟨_, (@pss_cons _ _ _ _ _ (@ps_set _ _ 3 _ _ _ _ sc_l_move.nd rfl (Or.inl rfl) (@pe_op _ _ _ _ _ _ _ _ op_mod (@pe_op _ _ _ _ _ _ _ _ op_sub (pv 2) (pv 1)) (pv 0)) (by rfl) (by first | exact Or.inl rfl | exact Or.inr rfl))
      (@pss_cons _ _ _ _ _ (@ps_if _ _ _ _ _ _ _ _ (@pt_cmpR _ _ _ _ _ _ _ _ op_gt (@pe_op _ _ _ _ _ _ _ _ op_mul pe_int (pv 3)) (pv 0) (nomark _))
        (@pss_one _ _ _ (@ps_ret _ _ _ _ (@pe_op _ _ _ _ _ _ _ _ op_sub (pv 3) (pv 0))))
        pss_nil)
      (@pss_one _ _ _ (@ps_ret _ _ _ _ (pv 3))))), ?_⟩
    refine ⟨_, rfl, _, rfl, _, _, rfl, rfl, _, rfl, _, _, rfl, rfl, hn, _, rfl, _, _, rfl, rfl, .inl ⟨by decide, by decide⟩, _, rfl, _, _, rfl, rfl, _, rfl, ?_⟩
    have e1 : mv n a b = if 2 * ((b - a) % n) ≤ n then (b - a) % n else (b - a) % n - n := rfl
    refine if2 (fun e => ?_) (fun e => ?_)
    · have e := of_decide_eq_true e
      rw [e1, if_neg (by omega)] at q
      exact ⟨_, rfl, _, rfl, _, _, rfl, rfl, q⟩
    · have e := of_decide_eq_false e
      rw [e1, if_pos (by omega)] at q
      exact ⟨_, rfl, q⟩
set_option maxHeartbeats 8000000 in
theorem ok_l_prices_of {f : Addr} {fd : FuncData} (F : Fun K "_law_prices_of" "_law_prices_of" s_l_prices_of f fd) (T : Txt K mg) (C_l_move : Has P w K mg base 1 "_law_move" ["_law_n", "_law_one", "_law_other"] (sp_l_move w K)) : FnOk P w K mg base CX0 2 f fd ["_law_n", "_law_leading"] (sp_l_prices_of w K) := by
  refine F.ok sc_l_prices_of (fun vs H Q E h => ?_) (fun cdv A outer s H vs Q E hr h => ?_)
  · obtain ⟨n, l, ws, ps, rfl, hS, pr, hn, n24, hl, q⟩ := h
    rfl
  · obtain ⟨n, l, ws, ps, rfl, hS, pr, hn, n24, hl, q⟩ := h
    refine ⟨_, (@pss_cons _ _ _ _ _ (ps_setC2 (i := 2) sc_l_prices_of.nd rfl rfl (ys := ["_law_n"]) (js := [0]) ⟨by rfl, of_decide_eq_true (by kernel_rfl), of_decide_eq_true (by kernel_rfl), by rfl, by rfl, of_decide_eq_true (by kernel_rfl), of_decide_eq_true (by kernel_rfl), by rfl, of_decide_eq_true (by kernel_rfl)⟩ rfl (pi_list (pv 1)) (fun _ _ _ _ _ => (@pe_callH _ _ _ _ _ _ _ _ _ _ C_l_move (hr.mono (by decide)) rfl (@pa_cons _ _ _ _ _ (pv 2) (@pa_cons _ _ _ _ _ (pv 0) (@pa_cons _ _ _ _ _ (pv 1) pa_nil (by rfl)) (by rfl)) (by rfl)) (by decide) (by rfl) (by rfl))))
      (@pss_one _ _ _ (@ps_ret _ _ _ _ (@pe_tup _ _ _ _ _ (@pa_cons _ _ _ _ _ (pe_callB (call_sum rfl) (by rfl) T.b_sum PyProof.Rows.boot_sum (@pa_cons _ _ _ _ _ (pe_comp (ys := []) (js := []) ⟨by rfl, of_decide_eq_true (by kernel_rfl), of_decide_eq_true (by kernel_rfl), by rfl, of_decide_eq_true (by kernel_rfl), of_decide_eq_true (by kernel_rfl), by rfl, of_decide_eq_true (by kernel_rfl)⟩ rfl (pi_list (pv 2)) (fun _ _ _ _ _ => pts_nil) (fun _ _ _ _ _ => (pe_callB call_abs (by rfl) T.b_abs PyProof.Rows.boot_abs (@pa_cons _ _ _ _ _ (pv 0) pa_nil (by rfl))))) pa_nil (by rfl))) (@pa_cons _ _ _ _ _ (pe_callB (call_sum rfl) (by rfl) T.b_sum PyProof.Rows.boot_sum (@pa_cons _ _ _ _ _ (pe_comp (ys := []) (js := []) ⟨by rfl, of_decide_eq_true (by kernel_rfl), of_decide_eq_true (by kernel_rfl), by rfl, of_decide_eq_true (by kernel_rfl), of_decide_eq_true (by kernel_rfl), by rfl, of_decide_eq_true (by kernel_rfl)⟩ rfl (pi_list (pv 2)) (fun _ _ _ _ _ => pts_nil) (fun _ _ _ _ _ => (@pe_op _ _ _ _ _ _ _ _ op_mul (pv 0) (pv 0)))) pa_nil (by rfl))) pa_nil (by rfl)) (by rfl)))))), ?_⟩
    refine ⟨_, rfl, l, rfl, ⟨_, hS⟩, comp2_int ws ps (fun c => .int c.1) (fun c => .int c.2) (fun c => mv n c.1 c.2) hS pr (fun c H' _ _ Q2 h => ⟨_, rfl, _, rfl, _, rfl, n, _, _, rfl, hn, h H' (Same.refl _)⟩) (fit1000 (by omega)) fun D H1 hD s1 hL => ?_⟩
    have lm : (ps.map fun c => mv n c.1 c.2).length ≤ 1000 := by rw [List.length_map]; omega
    refine ⟨_, rfl, D, rfl, ⟨_, SqL.of hL⟩, comp_int (ps.map fun c => mv n c.1 c.2) V.int (fun _ => true) (fun m => if m < 0 then -m else m) (it_list _ V.int (SqL.of hL)) (fun b H' _ _ Q2 h => h H' (Same.refl _)) (fun b H' _ _ _ Q2 h => ⟨_, rfl, _, rfl, h H' (Same.refl _)⟩) (fit1000 lm) fun D2 H2 hD2 s2 hL2 => ?_⟩
    rw [filter_all] at hL2
    refine ⟨D2, _, rfl, SqL.of hL2, ?_⟩
    have hLb := s2 _ _ hL
    refine ⟨_, rfl, D, rfl, ⟨_, SqL.of hLb⟩, comp_int (ps.map fun c => mv n c.1 c.2) V.int (fun _ => true) (fun m => m * m) (it_list _ V.int (SqL.of hLb)) (fun b H' _ _ Q2 h => h H' (Same.refl _)) (fun b H' hb _ _ Q2 h => ⟨_, rfl, _, rfl, _, _, rfl, rfl, ?_, h H' (Same.refl _)⟩) (fit1000 lm) fun D3 H3 hD3 s3 hL3 => ?_⟩
    · obtain ⟨c, hc, rfl⟩ := List.mem_map.mp hb
      have := mv_b hn c.1 c.2
      exact .inl ⟨by omega, by omega⟩
    rw [filter_all] at hL3
    refine ⟨D3, _, rfl, SqL.of hL3, two_fit, fun r r0 => q r _ (((s1.trans s2).trans s3).trans (Same.new r0)) ?_⟩
    have e1 : ((ps.map fun c => mv n c.1 c.2).map fun m => if m < 0 then -m else m) = ps.map fun c => dist n c.1 c.2 := (List.map_map).trans <| List.map_congr_left fun c _ => (dist_mv hn c.1 c.2).symm
    have e2 : ((ps.map fun c => mv n c.1 c.2).map fun m : Int => m * m) = ps.map fun c => mv n c.1 c.2 ^ 2 := (List.map_map).trans <| List.map_congr_left fun c _ => (sq2 _).symm
    rw [← e1, ← e2]
    exact upd_same
set_option maxHeartbeats 8000000 in
theorem ok_l_cross {f : Addr} {fd : FuncData} (F : Fun K "_law_cross" "_law_cross" s_l_cross f fd) (T : Txt K mg) (C_l_move : Has P w K mg base 1 "_law_move" ["_law_n", "_law_one", "_law_other"] (sp_l_move w K)) : FnOk P w K mg base CX0 2 f fd ["_law_n", "_law_one", "_law_other"] (sp_l_cross w K) := by
  refine F.ok sc_l_cross (fun vs H Q E h => ?_) (fun cdv A outer s H vs Q E hr h => ?_)
  · obtain ⟨n, p1, p2, c, d, rfl, h1, h2, hn, q⟩ := h
    rfl
  · obtain ⟨n, p1, p2, c, d, rfl, h1, h2, hn, q⟩ := h
    refine ⟨_, (@pss_cons _ _ _ _ _ (@ps_set _ _ 3 _ _ _ _ sc_l_cross.nd rfl (Or.inl rfl) (@pe_op _ _ _ _ _ _ _ _ op_sub (@pe_op _ _ _ _ _ _ _ _ op_add (@pe_op _ _ _ _ _ _ _ _ op_sub (@pe_ix _ _ _ _ _ _ _ ix_tup (pv 2) pe_int (fun _ _ => rfl)) (@pe_ix _ _ _ _ _ _ _ ix_tup (pv 1) pe_int (fun _ _ => rfl))) (@pe_callH _ _ _ _ _ _ _ _ _ _ C_l_move (hr.mono (by decide)) rfl (@pa_cons _ _ _ _ _ (pv 0) (@pa_cons _ _ _ _ _ (@pe_ix _ _ _ _ _ _ _ ix_tup (pv 2) pe_int (fun _ _ => rfl)) (@pa_cons _ _ _ _ _ (@pe_ix _ _ _ _ _ _ _ ix_tup (pv 2) pe_int (fun _ _ => rfl)) pa_nil (by rfl)) (by rfl)) (by rfl)) (by decide) (by rfl) (by rfl))) (@pe_callH _ _ _ _ _ _ _ _ _ _ C_l_move (hr.mono (by decide)) rfl (@pa_cons _ _ _ _ _ (pv 0) (@pa_cons _ _ _ _ _ (@pe_ix _ _ _ _ _ _ _ ix_tup (pv 1) pe_int (fun _ _ => rfl)) (@pa_cons _ _ _ _ _ (@pe_ix _ _ _ _ _ _ _ ix_tup (pv 1) pe_int (fun _ _ => rfl)) pa_nil (by rfl)) (by rfl)) (by rfl)) (by decide) (by rfl) (by rfl))) (by rfl) (by first | exact Or.inl rfl | exact Or.inr rfl))
      (@pss_one _ _ _ (@ps_ret _ _ _ _ (pe_or (@pe_cmpR _ _ _ _ _ _ _ _ op_lt (pv 3) pe_int (nomark _)) (pe_one (@pe_cmpR _ _ _ _ _ _ _ _ op_gt (pv 3) (pv 0) (nomark _))))))), ?_⟩
    refine ⟨_, rfl, p2, _, _, _, rfl, rfl, SqT.of h2, rfl, _, rfl, p1, _, _, _, rfl, rfl, SqT.of h1, rfl, _, _, rfl, rfl, _, rfl, _, rfl, p2, _, _, _, rfl, rfl, SqT.of h2, rfl, _, rfl, p2, _, _, _, rfl, rfl, SqT.of h2, rfl, n, d.1, d.2, rfl, hn, _, _, rfl, rfl, _, rfl, _, rfl, p1, _, _, _, rfl, rfl, SqT.of h1, rfl, _, rfl, p1, _, _, _, rfl, rfl, SqT.of h1, rfl, n, c.1, c.2, rfl, hn, _, _, rfl, rfl, ?_⟩
    refine ⟨_, rfl, _, _, rfl, rfl, _, rfl, ?_⟩
    have e0 : crsL n c d = (decide (aptL n c d < 0) || decide (aptL n c d > n)) := rfl
    rw [e0] at q
    refine if2 (fun e => ?_) (fun e => ?_)
    · have e' : decide (aptL n c d < 0) = true := e
      rw [e'] at q
      exact q
    · have e' : decide (aptL n c d < 0) = false := e
      rw [e', Bool.false_or] at q
      exact ⟨_, rfl, _, rfl, _, _, rfl, rfl, q⟩
set_option maxHeartbeats 8000000 in
theorem ok_l_crossings {f : Addr} {fd : FuncData} (F : Fun K "_law_crossings" "_law_crossings" s_l_crossings f fd) (T : Txt K mg) (C_l_cross : Has P w K mg base 2 "_law_cross" ["_law_n", "_law_one", "_law_other"] (sp_l_cross w K)) : FnOk P w K mg base CX0 3 f fd ["_law_n", "_law_leading"] (sp_l_crossings w K) := by
  refine F.ok sc_l_crossings (fun vs H Q E h => ?_) (fun cdv A outer s H vs Q E hr h => ?_)
  · obtain ⟨n, l, ws, ps, rfl, hS, pr, hn, n24, hl, q⟩ := h
    rfl
  · obtain ⟨n, l, ws, ps, rfl, hS, pr, hn, n24, hl, q⟩ := h
    refine ⟨_, (@pss_cons _ _ _ _ _ (@ps_set _ _ 2 _ _ _ _ sc_l_crossings.nd rfl (Or.inl rfl) (pe_callB call_len_seq (by rfl) T.b_len PySem.boot_len (@pa_cons _ _ _ _ _ (pv 1) pa_nil (by rfl))) (by rfl) (by first | exact Or.inl rfl | exact Or.inr rfl))
      (@pss_cons _ _ _ _ _ (@ps_set _ _ 3 _ _ _ _ sc_l_crossings.nd rfl (Or.inl rfl) (@pe_lst _ _ _ _ pa_nil) (by rfl) (by first | exact Or.inl rfl | exact Or.inr rfl))
      (@pss_cons _ _ _ _ _ (ps_for PassesOwn.never rfl (pi_range1 rfl T.b_range (@pa_cons _ _ _ _ _ (pv 2) pa_nil (by rfl))) (pg_name (i := 4) sc_l_crossings.nd rfl (Or.inr rfl))
        (@pss_one _ _ _ (@ps_set _ _ 3 _ _ _ _ sc_l_crossings.nd rfl (Or.inl rfl) (@pe_op _ _ _ _ _ _ _ _ op_cat (pv 3) (pe_comp (ys := ["_law_i", "_law_n", "_law_leading"]) (js := [4, 0, 1]) ⟨by rfl, of_decide_eq_true (by kernel_rfl), of_decide_eq_true (by kernel_rfl), by rfl, of_decide_eq_true (by kernel_rfl), of_decide_eq_true (by kernel_rfl), by rfl, of_decide_eq_true (by kernel_rfl)⟩ rfl (pi_range2 rfl T.b_range (@pa_cons _ _ _ _ _ (@pe_op _ _ _ _ _ _ _ _ op_add (pv 4) pe_int) (@pa_cons _ _ _ _ _ (pv 2) pa_nil (by rfl)) (by rfl))) (fun _ _ _ _ _ => (pts_one (pt_val (@pe_callH _ _ _ _ _ _ _ _ _ _ C_l_cross (hr.mono (by decide)) rfl (@pa_cons _ _ _ _ _ (pv 2) (@pa_cons _ _ _ _ _ (@pe_ix _ _ _ _ _ _ _ (kix_list (K := K) rfl) (pv 3) (pv 1) (fun _ _ => rfl)) (@pa_cons _ _ _ _ _ (@pe_ix _ _ _ _ _ _ _ (kix_list (K := K) rfl) (pv 3) (pv 0) (fun _ _ => rfl)) pa_nil (by rfl)) (by rfl)) (by rfl)) (by decide) (by rfl) (by rfl))))) (fun _ _ _ _ _ => (@pe_tup _ _ _ _ _ (@pa_cons _ _ _ _ _ (pv 1) (@pa_cons _ _ _ _ _ (pv 0) pa_nil (by rfl)) (by rfl)))))) (by rfl) (by first | exact Or.inl rfl | exact Or.inr rfl))))
      (@pss_one _ _ _ (@ps_ret _ _ _ _ (pv 3)))))), ?_⟩
    have lw : ws.length = ps.length := prd_len pr
    refine ⟨_, rfl, l, _, rfl, .inl hS, ?_⟩
    refine ⟨(by show 0 ≤ sizeLine; decide), fun L L0 => ?_⟩
    refine ⟨_, rfl, _, rfl, by omega, by omega, for_range (fun i σ G => ∃ (v1 : Option V) (L1 : Addr) (us : List V), σ = [some (.int n), some (.ref l), some (.int (ws.length : Int)), some (.ref L1), v1] ∧ H L1 = none ∧ Same H G ∧ G L1 = some (.lst us) ∧ Paired (LdR G) us (cxU (crsL n) ps i)) ?_ ?_ ?_⟩
    · exact ⟨_, L, [], rfl, L0, Same.new L0, upd_same, .nil⟩
    · rintro i σ G hi ⟨v1, L1, us, rfl, L10, sG, hL, hd⟩
      have hi : i < ps.length := by omega
      obtain ⟨x', hx', p1, rfl, hp1⟩ := prd_get pr (List.getElem?_eq_getElem hi)
      have e1 : ps.getD i (0, 0) = ps[i] := by rw [List.getD_eq_getElem?_getD, List.getElem?_eq_getElem hi]; rfl
      have ai : atI ws (0 + (i : Int)) = some (.ref p1) := by rw [Int.zero_add]; exact atI_nat hx'
      have ei : (0 + (i : Int)) = (i : Int) := Int.zero_add _
      refine ⟨_, rfl, _, rfl, _, _, rfl, rfl, _, rfl, (0 + (i : Int)) + 1, _, rfl, ⟨by omega, by omega, by omega, by omega⟩, comp_grow (rngL ((0 + (i : Int)) + 1) (ws.length : Int)) V.int (fun j => crsL n (ps.getD i (0, 0)) (ps.getD j.toNat (0, 0))) (fun j => ((i : Int), j)) LdR (fun _ _ _ _ t r => r.mono t) (it_range _ ((0 + (i : Int)) + 1) ((ws.length : Int) - ((0 + (i : Int)) + 1)).toNat) (fun b H' hb s Q2 h => ?_) (fun b H' _ _ s Q2 h => ⟨_, rfl, _, rfl, two_fit, fun r r0 => h _ _ (Same.new r0) ⟨r, rfl, by rw [upd_same, ei]⟩⟩) ?_ fun D us2 H4 hD s4 hD4 pr2 => ?_⟩
      · have hb := rngL_mem.mp hb
        have hb2 : b.toNat < ps.length := by omega
        obtain ⟨y, hy, p2, rfl, hp2⟩ := prd_get pr (List.getElem?_eq_getElem hb2)
        have ab : atI ws b = some (.ref p2) := by
          rw [show b = ((b.toNat : Nat) : Int) by omega]
          exact atI_nat hy
        have e2 : ps.getD b.toNat (0, 0) = ps[b.toNat] := by rw [List.getD_eq_getElem?_getD, List.getElem?_eq_getElem hb2]; rfl
        refine ⟨_, rfl, _, rfl, _, rfl, l, _, _, _, rfl, rfl, (sG.trans s).seq hS, ai, _, rfl, _, rfl, l, _, _, _, rfl, rfl, (sG.trans s).seq hS, ab, n, p1, p2, ps[i], ps[b.toNat], rfl, (sG.trans s) _ _ hp1, (sG.trans s) _ _ hp2, hn, _, rfl, ?_⟩
        rw [← e1, ← e2]
        exact h H' (Same.refl _)
      · rw [rngL_len]; exact fit1000 (by omega)
      have l1 : us.length ≤ 576 := by
        rw [prd_len hd]
        refine Nat.le_trans (cxU_len _ _ _) ?_
        exact Nat.le_trans (Nat.mul_le_mul hl (by omega : i ≤ 24)) (by decide)
      rw [lw, ei] at pr2
      have l2 : us2.length ≤ 24 := by
        rw [prd_len pr2]
        exact Nat.le_trans (cxr_len _ ps i) hl
      refine ⟨L1, D, _, _, rfl, rfl, s4 _ _ hL, hD4, fit1000 (by omega), fun r r0 => ?_⟩
      have s5 := Same.new (o := .lst (us ++ us2)) r0
      refine ⟨_, r, us ++ us2, rfl, (sG.trans s4).free r0, (sG.trans s4).trans s5, upd_same, ?_⟩
      rw [cxU_succ]
      exact prd_append (prd_imp (fun _ _ r => r.mono (s4.trans s5).tk) hd) (prd_imp (fun _ _ r => r.mono s5.tk) pr2)
    · rintro σ G ⟨v1, L1, us, rfl, L10, sG, hL, hd⟩
      have e : (((ws.length : Nat) : Int)).toNat = ps.length := by omega
      rw [e] at hd
      exact ⟨_, rfl, q L1 us G L10 sG hL hd⟩
set_option maxHeartbeats 8000000 in
theorem ok_l_same_pairs {f : Addr} {fd : FuncData} (F : Fun K "_law_same_pairs" "_law_same_pairs" s_l_same_pairs f fd) (T : Txt K mg) (C_l_whole : Has P w K mg base 1 "_law_whole" ["_law_found"] (sp_l_whole w K)) : FnOk P w K mg base CX0 2 f fd ["_law_found", "_law_due"] (sp_l_same_pairs w K) := by
  refine F.ok sc_l_same_pairs (fun vs H Q E h => ?_) (fun cdv A outer s H vs Q E hr h => ?_)
  · obtain ⟨l, l2, us, us2, ps, rfl, h1, h2, pr1, pr2, hl, q⟩ := h
    rfl
  · obtain ⟨l, l2, us, us2, ps, rfl, h1, h2, pr1, pr2, hl, q⟩ := h
    refine ⟨_, (@pss_cons _ _ _ _ _ (@ps_if _ _ _ _ _ _ _ _ (PW.pt (pw_or (pt_not (pt_val (pe_callB call_isinst (by rfl) T.b_isinstance PyProof.Rows.boot_isinstance (@pa_cons _ _ _ _ _ (pv 0) (@pa_cons _ _ _ _ _ (pe_bltn (v := V.ty "list") (by rfl) T.b_list PyProof.Rows.boot_list rfl) pa_nil (by rfl)) (by rfl))))) (pw_or1 (@pt_cmpR _ _ _ _ _ _ _ _ op_ne (pe_callB call_len_seq (by rfl) T.b_len PySem.boot_len (@pa_cons _ _ _ _ _ (pv 0) pa_nil (by rfl))) (pe_callB call_len_seq (by rfl) T.b_len PySem.boot_len (@pa_cons _ _ _ _ _ (pv 1) pa_nil (by rfl))) (nomark _)))))
        (@pss_one _ _ _ (@ps_ret _ _ _ _ pe_bl))
        pss_nil)
      (@pss_cons _ _ _ _ _ (ps_for PassesOwn.never rfl (pi_range1 rfl T.b_range (@pa_cons _ _ _ _ _ (pe_callB call_len_seq (by rfl) T.b_len PySem.boot_len (@pa_cons _ _ _ _ _ (pv 1) pa_nil (by rfl))) pa_nil (by rfl))) (pg_name (i := 2) sc_l_same_pairs.nd rfl (Or.inl rfl))
        (@pss_cons _ _ _ _ _ (@ps_if _ _ _ _ _ _ _ _ (PW.pt (pw_or (pt_not (pt_val (pe_callB call_isinst (by rfl) T.b_isinstance PyProof.Rows.boot_isinstance (@pa_cons _ _ _ _ _ (@pe_ix _ _ _ _ _ _ _ ix_list (pv 0) (pv 2) (fun _ _ => rfl)) (@pa_cons _ _ _ _ _ (pe_bltn (v := V.ty "tuple") (by rfl) T.b_tuple PyProof.Rows.boot_tuple rfl) pa_nil (by rfl)) (by rfl))))) (pw_or1 (@pt_cmpR _ _ _ _ _ _ _ _ op_ne (pe_callB call_len_seq (by rfl) T.b_len PySem.boot_len (@pa_cons _ _ _ _ _ (@pe_ix _ _ _ _ _ _ _ ix_list (pv 0) (pv 2) (fun _ _ => rfl)) pa_nil (by rfl))) pe_int (nomark _)))))
          (@pss_one _ _ _ (@ps_ret _ _ _ _ pe_bl))
          pss_nil)
        (@pss_one _ _ _ (@ps_if _ _ _ _ _ _ _ _ (PW.pt (pw_or (pt_not (pt_val (@pe_callH _ _ _ _ _ _ _ _ _ _ C_l_whole (hr.mono (by decide)) rfl (@pa_cons _ _ _ _ _ (@pe_ix _ _ _ _ _ _ _ ix_tup (@pe_ix _ _ _ _ _ _ _ ix_list (pv 0) (pv 2) (fun _ _ => rfl)) pe_int (fun _ _ => rfl)) pa_nil (by rfl)) (by decide) (by rfl) (by rfl)))) (pw_or (pt_not (pt_val (@pe_callH _ _ _ _ _ _ _ _ _ _ C_l_whole (hr.mono (by decide)) rfl (@pa_cons _ _ _ _ _ (@pe_ix _ _ _ _ _ _ _ ix_tup (@pe_ix _ _ _ _ _ _ _ ix_list (pv 0) (pv 2) (fun _ _ => rfl)) pe_int (fun _ _ => rfl)) pa_nil (by rfl)) (by decide) (by rfl) (by rfl)))) (pw_or1 (@pt_cmpR _ _ _ _ _ _ _ _ (op_neT hr.units0) (@pe_ix _ _ _ _ _ _ _ ix_list (pv 0) (pv 2) (fun _ _ => rfl)) (@pe_ix _ _ _ _ _ _ _ ix_list (pv 1) (pv 2) (fun _ _ => rfl)) (nomark _))))))
          (@pss_one _ _ _ (@ps_ret _ _ _ _ pe_bl))
          pss_nil))))
      (@pss_one _ _ _ (@ps_ret _ _ _ _ pe_bl)))), ?_⟩
    have lu1 : us.length = ps.length := prd_len pr1
    have lu2 : us2.length = ps.length := prd_len pr2
    refine ⟨_, rfl, _, "list", _, _, rfl, .lst h1, kit_same K _, true, rfl, ifn rfl ?_⟩
    refine ⟨_, rfl, l, _, rfl, .inl (SqL.of h1), _, rfl, l2, _, rfl, .inl (SqL.of h2), rfl, _, rfl, ifn (neF (by rw [lu1, lu2])) ?_⟩
    refine ⟨_, rfl, l2, _, rfl, .inl (SqL.of h2), _, rfl, by omega, by omega, for_range (fun j σ G2 => ∃ v, σ = [some (.ref l), some (.ref l2), v] ∧ G2 = H) ⟨_, rfl, rfl⟩ ?_ ?_⟩
    · rintro j σ G2 hj ⟨v, rfl, rfl⟩
      have hj' : j < ps.length := by omega
      obtain ⟨x1, g1, pa, rfl, ha⟩ := prd_get pr1 (List.getElem?_eq_getElem hj')
      obtain ⟨x2, g2, pb, rfl, hb⟩ := prd_get pr2 (List.getElem?_eq_getElem hj')
      have a1 : atI us (0 + (j : Int)) = some (.ref pa) := by rw [Int.zero_add]; exact atI_nat g1
      have a2 : atI us2 (0 + (j : Int)) = some (.ref pb) := by rw [Int.zero_add]; exact atI_nat g2
      generalize ps[j] = c at ha hb
      refine ⟨_, rfl, _, rfl, l, _, _, _, rfl, rfl, SqL.of h1, a1, _, "tuple", _, _, rfl, .tup ha, kit_same K _, true, rfl, ifn rfl ?_⟩
      refine ⟨_, rfl, _, rfl, l, _, _, _, rfl, rfl, SqL.of h1, a1, pa, _, rfl, .inr (SqT.of ha), rfl, _, rfl, ifn (neF rfl) ?_⟩
      refine ⟨_, rfl, _, rfl, l, _, _, _, rfl, rfl, SqL.of h1, a1, pa, _, _, _, rfl, rfl, SqT.of ha, rfl, _, rfl, true, rfl, ifn rfl ?_⟩
      refine ⟨_, rfl, _, rfl, l, _, _, _, rfl, rfl, SqL.of h1, a1, pa, _, _, _, rfl, rfl, SqT.of ha, rfl, _, rfl, true, rfl, ifn rfl ?_⟩
      exact ⟨_, rfl, _, rfl, l, _, _, _, rfl, rfl, SqL.of h1, a1, _, rfl, _, rfl, l2, _, _, _, rfl, rfl, SqL.of h2, a2, pa, pb, _, _, rfl, rfl, SqT.of ha, SqT.of hb, rfl, rfl, _, rfl, ifn (notF (decide_eq_true rfl)) ⟨_, rfl, rfl⟩⟩
    · rintro σ G2 ⟨v, rfl, rfl⟩
      exact q
set_option maxHeartbeats 8000000 in
theorem ok_l_refused {f : Addr} {fd : FuncData} (F : Fun K "_law_refused" "_law_refused" s_l_refused f fd) (T : Txt K mg) (C_least_leading : HasX P w K mg base 5 "least_leading" ["n", "one", "other"] (sp_least_leading w K)) : FnOk P w K mg base CX0 6 f fd ["_law_n", "_law_one", "_law_other"] (sp_l_refused w K) := by
  refine F.ok sc_l_refused (fun vs H Q E h => ?_) (fun cdv A outer s H vs Q E hr h => ?_)
  · obtain ⟨n, p, fs, p', ds, rfl, hp, hp', tf, td, hne, hn, n24, q⟩ := h
    rfl
  · obtain ⟨n, p, fs, p', ds, rfl, hp, hp', tf, td, hne, hn, n24, q⟩ := h
    obtain ⟨c_NoLeading, hm_NoLeading, ns_NoLeading, ex_NoLeading, xm_NoLeading, xo_NoLeading, k1_NoLeading, k2_NoLeading, k3_NoLeading⟩ := T.g_EXCS
    refine ⟨_, (@pss_cons _ _ _ _ _ (ps_tryCall (i := 3) rfl rfl rfl ⟨rfl, rfl⟩ C_least_leading (hr.mono (by decide)) rfl (fun _ => (@pa_cons _ _ _ _ _ (pv 0) (@pa_cons _ _ _ _ _ (pv 1) (@pa_cons _ _ _ _ _ (pv 2) pa_nil (by rfl)) (by rfl)) (by rfl))) (by rfl) hm_NoLeading sc_l_refused.nd rfl rfl (fun a oe cls hcl =>
        (@pss_one _ _ _ (@ps_ret _ _ _ _ (pe_callB (call_isX hcl) (by rfl) T.b_isinstance PyProof.Rows.boot_isinstance (@pa_cons _ _ _ _ _ (pv 3) (@pa_cons _ _ _ _ _ (pe_bltn (v := V.ty "ValueError") (by rfl) T.b_ValueError PyProof.Rows.Boot.«ValueError» rfl) pa_nil (by rfl)) (by rfl)))))))
      (@pss_one _ _ _ (@ps_ret _ _ _ _ pe_bl))), ?_⟩
    refine ⟨_, rfl, _, rfl, _, rfl, n, p, fs, p', ds, rfl, hp, hp', tf, td, hn, n24, .inr ⟨hne, fun H1 s1 C hC => ?_⟩⟩
    have eC : C = c_NoLeading := by
      rw [ns_NoLeading] at hC
      cases hC
      rfl
    subst eC
    refine ⟨xm_NoLeading, fun a ha => ?_⟩
    exact ⟨_, rfl, C, _, rfl, xo_NoLeading, rfl, .inl ⟨_, true, rfl, k2_NoLeading, q _ s1⟩⟩
set_option maxHeartbeats 8000000 in
theorem ok_l_right {f : Addr} {fd : FuncData} (F : Fun K "_law_right" "_law_right" s_l_right f fd) (T : Txt K mg) (C_l_crossings : Has P w K mg base 3 "_law_crossings" ["_law_n", "_law_leading"] (sp_l_crossings w K)) (C_l_prices_of : Has P w K mg base 2 "_law_prices_of" ["_law_n", "_law_leading"] (sp_l_prices_of w K)) (C_l_same_pairs : Has P w K mg base 2 "_law_same_pairs" ["_law_found", "_law_due"] (sp_l_same_pairs w K)) (C_l_whole : Has P w K mg base 1 "_law_whole" ["_law_found"] (sp_l_whole w K)) (C_least_leading : HasX P w K mg base 5 "least_leading" ["n", "one", "other"] (sp_least_leading w K)) (C_prices : HasX P w K mg base 6 "prices" ["n", "one", "other"] (sp_prices w K)) : FnOk P w K mg base CX0 7 f fd ["_law_n", "_law_one", "_law_other"] (sp_l_right w K) := by
  refine F.ok sc_l_right (fun vs H Q E h => ?_) (fun cdv A outer s H vs Q E hr h => ?_)
  · obtain ⟨n, p, fs, p', ds, rfl, hp, hp', tf, td, hl, hn, n24, q⟩ := h
    rfl
  · obtain ⟨n, p, fs, p', ds, rfl, hp, hp', tf, td, hl, hn, n24, q⟩ := h
    refine ⟨_, (@pss_cons _ _ _ _ _ (@ps_set _ _ 3 _ _ _ _ sc_l_right.nd rfl (Or.inl rfl) (pe_callX C_least_leading (hr.mono (by decide)) rfl (@pa_cons _ _ _ _ _ (pv 0) (@pa_cons _ _ _ _ _ (pv 1) (@pa_cons _ _ _ _ _ (pv 2) pa_nil (by rfl)) (by rfl)) (by rfl))) (by rfl) (by first | exact Or.inl rfl | exact Or.inr rfl))
      (@pss_cons _ _ _ _ _ (@ps_if _ _ _ _ _ _ _ _ (PW.pt (pw_or (pt_not (pt_val (pe_callB call_isinst (by rfl) T.b_isinstance PyProof.Rows.boot_isinstance (@pa_cons _ _ _ _ _ (pv 3) (@pa_cons _ _ _ _ _ (pe_bltn (v := V.ty "tuple") (by rfl) T.b_tuple PyProof.Rows.boot_tuple rfl) pa_nil (by rfl)) (by rfl))))) (pw_or (@pt_cmpR _ _ _ _ _ _ _ _ op_ne (pe_callB call_len_seq (by rfl) T.b_len PySem.boot_len (@pa_cons _ _ _ _ _ (pv 3) pa_nil (by rfl))) pe_int (nomark _)) (pw_or (pt_not (pt_val (@pe_callH _ _ _ _ _ _ _ _ _ _ C_l_whole (hr.mono (by decide)) rfl (@pa_cons _ _ _ _ _ (@pe_ix _ _ _ _ _ _ _ ix_tup (pv 3) pe_int (fun _ _ => rfl)) pa_nil (by rfl)) (by decide) (by rfl) (by rfl)))) (pw_or1 (pt_not (pt_val (pe_callB call_isinst (by rfl) T.b_isinstance PyProof.Rows.boot_isinstance (@pa_cons _ _ _ _ _ (@pe_ix _ _ _ _ _ _ _ ix_tup (pv 3) pe_int (fun _ _ => rfl)) (@pa_cons _ _ _ _ _ (pe_bltn (v := V.ty "list") (by rfl) T.b_list PyProof.Rows.boot_list rfl) pa_nil (by rfl)) (by rfl))))))))))
        (@pss_one _ _ _ (@ps_ret _ _ _ _ pe_bl))
        pss_nil)
      (@pss_cons _ _ _ _ _ (ps_setC (i := 4) sc_l_right.nd rfl rfl (ys := []) (js := []) ⟨by rfl, of_decide_eq_true (by kernel_rfl), of_decide_eq_true (by kernel_rfl), by rfl, of_decide_eq_true (by kernel_rfl), of_decide_eq_true (by kernel_rfl), by rfl, of_decide_eq_true (by kernel_rfl)⟩ rfl (pi_list (@pe_ix _ _ _ _ _ _ _ ix_tup (pv 3) pe_int (fun _ _ => rfl))) (fun _ _ _ _ _ => (pts_one (PW.pt (pw_and (pt_val (pe_callB (kcall_isi (K := K) rfl) (by rfl) T.b_isinstance PyProof.Rows.boot_isinstance (@pa_cons _ _ _ _ _ (pv 0) (@pa_cons _ _ _ _ _ (pe_bltn (v := V.ty "tuple") (by rfl) T.b_tuple PyProof.Rows.boot_tuple rfl) pa_nil (by rfl)) (by rfl)))) (pw_and1 (@pt_cmpR _ _ _ _ _ _ _ _ op_eq (pe_callB (kcall_len (K := K) rfl) (by rfl) T.b_len PySem.boot_len (@pa_cons _ _ _ _ _ (pv 0) pa_nil (by rfl))) pe_int (nomark _))))))) (fun _ _ _ _ _ => (pv 0)))
      (@pss_cons _ _ _ _ _ (@ps_if _ _ _ _ _ _ _ _ (PW.pt (pw_or (@pt_cmpR _ _ _ _ _ _ _ _ op_ne (pe_callB call_len_seq (by rfl) T.b_len PySem.boot_len (@pa_cons _ _ _ _ _ (pv 4) pa_nil (by rfl))) (pe_callB call_len_seq (by rfl) T.b_len PySem.boot_len (@pa_cons _ _ _ _ _ (@pe_ix _ _ _ _ _ _ _ ix_tup (pv 3) pe_int (fun _ _ => rfl)) pa_nil (by rfl))) (nomark _)) (pw_or1 (@pt_cmpR _ _ _ _ _ _ _ _ (op_neLd (d := 0) (R := IntR) eqok_int (by decide) hr.units) (pe_comp (ys := []) (js := []) ⟨by rfl, of_decide_eq_true (by kernel_rfl), of_decide_eq_true (by kernel_rfl), by rfl, of_decide_eq_true (by kernel_rfl), of_decide_eq_true (by kernel_rfl), by rfl, of_decide_eq_true (by kernel_rfl)⟩ rfl (pi_list (pv 4)) (fun _ _ _ _ _ => pts_nil) (fun _ _ _ _ _ => (@pe_ix _ _ _ _ _ _ _ (kix_tup (K := K) rfl) (pv 0) pe_int (fun _ _ => rfl)))) (pe_callTy call_list_of (by rfl) T.b_list PyProof.Rows.boot_list (@pa_cons _ _ _ _ _ (pv 1) pa_nil (by rfl))) (nomark _)))))
        (@pss_one _ _ _ (@ps_ret _ _ _ _ pe_bl))
        pss_nil)
      (@pss_cons _ _ _ _ _ (@ps_if _ _ _ _ _ _ _ _ (PW.pt (pw_or (@pt_cmpR _ _ _ _ _ _ _ _ (op_neLd (d := 0) (R := IntR) eqok_int (by decide) hr.units) (pe_callB (call_sorted_i rfl) (by rfl) T.b_sorted PyProof.Rows.boot_sorted (@pa_cons _ _ _ _ _ (pe_comp (ys := []) (js := []) ⟨by rfl, of_decide_eq_true (by kernel_rfl), of_decide_eq_true (by kernel_rfl), by rfl, of_decide_eq_true (by kernel_rfl), of_decide_eq_true (by kernel_rfl), by rfl, of_decide_eq_true (by kernel_rfl)⟩ rfl (pi_list (pv 4)) (fun _ _ _ _ _ => pts_nil) (fun _ _ _ _ _ => (@pe_ix _ _ _ _ _ _ _ (kix_tup (K := K) rfl) (pv 0) pe_int (fun _ _ => rfl)))) pa_nil (by rfl))) (pe_callTy call_list_of (by rfl) T.b_list PyProof.Rows.boot_list (@pa_cons _ _ _ _ _ (pv 2) pa_nil (by rfl))) (nomark _)) (pw_or1 (@pt_cmpR _ _ _ _ _ _ _ _ op_ne (@pe_ix _ _ _ _ _ _ _ ix_tup (@pe_callH _ _ _ _ _ _ _ _ _ _ C_l_prices_of (hr.mono (by decide)) rfl (@pa_cons _ _ _ _ _ (pv 0) (@pa_cons _ _ _ _ _ (pv 4) pa_nil (by rfl)) (by rfl)) (by decide) (by rfl) (by rfl)) pe_int (fun _ _ => rfl)) (@pe_ix _ _ _ _ _ _ _ ix_tup (pv 3) pe_int (fun _ _ => rfl)) (nomark _)))))
        (@pss_one _ _ _ (@ps_ret _ _ _ _ pe_bl))
        pss_nil)
      (@pss_cons _ _ _ _ _ (@ps_set _ _ 5 _ _ _ _ sc_l_right.nd rfl (Or.inl rfl) (pe_callX C_prices (hr.mono (by decide)) rfl (@pa_cons _ _ _ _ _ (pv 0) (@pa_cons _ _ _ _ _ (pv 1) (@pa_cons _ _ _ _ _ (pv 2) pa_nil (by rfl)) (by rfl)) (by rfl))) (by rfl) (by first | exact Or.inl rfl | exact Or.inr rfl))
      (@pss_cons _ _ _ _ _ (@ps_if _ _ _ _ _ _ _ _ (PW.pt (pw_or (@pt_cmpR _ _ _ _ _ _ _ _ op_ne (@pe_op _ _ _ _ _ _ _ _ op_add (pe_callB (call_sumT rfl) (by rfl) T.b_sum PyProof.Rows.boot_sum (@pa_cons _ _ _ _ _ (@pe_ix _ _ _ _ _ _ _ ix_tup (pv 5) pe_int (fun _ _ => rfl)) pa_nil (by rfl))) (pe_callB (call_sumT rfl) (by rfl) T.b_sum PyProof.Rows.boot_sum (@pa_cons _ _ _ _ _ (@pe_ix _ _ _ _ _ _ _ ix_tup (pv 5) pe_int (fun _ _ => rfl)) pa_nil (by rfl)))) (@pe_ix _ _ _ _ _ _ _ ix_tup (pv 3) pe_int (fun _ _ => rfl)) (nomark _)) (pw_or1 (@pt_cmpR _ _ _ _ _ _ _ _ op_gt (pe_callB call_len_seq (by rfl) T.b_len PySem.boot_len (@pa_cons _ _ _ _ _ (@pe_callH _ _ _ _ _ _ _ _ _ _ C_l_crossings (hr.mono (by decide)) rfl (@pa_cons _ _ _ _ _ (pv 0) (@pa_cons _ _ _ _ _ (pv 4) pa_nil (by rfl)) (by rfl)) (by decide) (by rfl) (by rfl)) pa_nil (by rfl))) pe_int (nomark _)))))
        (@pss_one _ _ _ (@ps_ret _ _ _ _ pe_bl))
        pss_nil)
      (@pss_cons _ _ _ _ _ (ps_expr (pe_bm0 PySem.F.plainAttrs_list PySem.F.slot_list_clear PySem.F.type_list_clear mt_clear (@pe_ix _ _ _ _ _ _ _ ix_tup (pv 3) pe_int (fun _ _ => rfl))))
      (@pss_cons _ _ _ _ _ (@ps_set _ _ 6 _ _ _ _ sc_l_right.nd rfl (Or.inl rfl) (pe_callX C_least_leading (hr.mono (by decide)) rfl (@pa_cons _ _ _ _ _ (pv 0) (@pa_cons _ _ _ _ _ (pv 1) (@pa_cons _ _ _ _ _ (pv 2) pa_nil (by rfl)) (by rfl)) (by rfl))) (by rfl) (by first | exact Or.inl rfl | exact Or.inr rfl))
      (@pss_one _ _ _ (@ps_ret _ _ _ _ (pe_and (@pe_cmpR _ _ _ _ _ _ _ _ op_eq (@pe_ix _ _ _ _ _ _ _ ix_tup (pv 6) pe_int (fun _ _ => rfl)) (@pe_ix _ _ _ _ _ _ _ ix_tup (pv 3) pe_int (fun _ _ => rfl)) (nomark _)) (pe_one (@pe_callH _ _ _ _ _ _ _ _ _ _ C_l_same_pairs (hr.mono (by decide)) rfl (@pa_cons _ _ _ _ _ (@pe_ix _ _ _ _ _ _ _ ix_tup (pv 6) pe_int (fun _ _ => rfl)) (@pa_cons _ _ _ _ _ (pv 4) pa_nil (by rfl)) (by rfl)) (by decide) (by rfl) (by rfl))))))))))))))), ?_⟩
    have d24 := td.len
    refine ⟨_, rfl, _, rfl, _, rfl, n, p, fs, p', ds, rfl, hp, hp', tf, td, hn, n24, .inl ⟨hl, fun ls lst r l ws H1 s1 l0 h1 hl1 pr1 => ?_⟩⟩
    have lls := lst_len lst
    have lw : ws.length = ls.length := prd_len pr1
    have A1 : ∀ {G : Hp}, Same H1 G → SqT K G r [.int (cst n ls), .ref l] := fun s => SqT.of (s _ _ h1)
    refine ⟨_, rfl, _, "tuple", _, _, rfl, .tup h1, kit_same K _, true, rfl, ifn rfl ?_⟩
    refine ⟨_, rfl, r, _, rfl, .inr (SqT.of h1), rfl, _, rfl, ifn (neF rfl) ?_⟩
    refine ⟨_, rfl, r, _, _, _, rfl, rfl, SqT.of h1, rfl, _, rfl, true, rfl, ifn rfl ?_⟩
    refine ⟨_, rfl, r, _, _, _, rfl, rfl, SqT.of h1, rfl, _, "list", _, _, rfl, .lst hl1, kit_same K _, true, rfl, ifn rfl ?_⟩
    -- the pairs that are kept
    refine ⟨_, rfl, r, _, _, _, rfl, rfl, SqT.of h1, rfl, l, rfl, ⟨_, SqL.of hl1⟩, comp_prd ws ls LdR (fun _ => true) id LdR (fun _ _ _ _ t r => r.mono t) (fun _ _ _ _ t r => r.mono t) (SqL.of hl1) pr1 (fun v c H' hc r s Q2 h => ?_) (fun v c H' hc r hpt s Q2 h => ⟨_, rfl, h _ H' (Same.refl _) r⟩) (fit1000 (by omega)) fun k ks H2 k0 s2 hk pk => ?_⟩
    · obtain ⟨t, rfl, ht⟩ := r
      exact ⟨_, rfl, _, "tuple", _, _, rfl, .tup ht, kit_same K _, true, rfl, ifp rfl ⟨_, rfl, t, _, rfl, .inr (SqT.of ht), rfl, _, rfl, h H' (Same.refl _)⟩⟩
    rw [filter_all, List.map_id] at pk
    have lk : ks.length = ls.length := prd_len pk
    have nkl : k ≠ l := fun e => by rw [e, hl1] at k0; cases k0
    refine ⟨_, rfl, k, _, rfl, .inl (SqL.of hk), _, rfl, r, _, _, _, rfl, rfl, A1 s2, rfl, l, _, rfl, .inl (SqL.of (s2 _ _ hl1)), rfl, _, rfl, ifn (neF (by rw [lk, lw])) ?_⟩
    -- their first ones
    refine ⟨_, rfl, k, rfl, ⟨_, SqL.of hk⟩, comp_at ks ls (fun c => c.1) (SqL.of hk) lk (fun i v c H' hv hc s Q2 h => ?_) (fit1000 (by omega)) fun D3 H3 D30 s3 h3 => ?_⟩
    · obtain ⟨y, hy, t, rfl, ht⟩ := prd_get pk hc
      rw [hv] at hy
      cases hy
      exact ⟨_, rfl, t, _, _, _, rfl, rfl, SqT.of (s _ _ ht), rfl, h H' (Same.refl _)⟩
    have S3 := (s1.trans s2).trans s3
    refine ⟨_, rfl, p, _, rfl, .inr (SqT.of (S3 _ _ hp)), fun D4 D40 => ?_⟩
    obtain ⟨s4, h4⟩ := new_all (o := .lst (fs.map V.int)) D40
    have h34 := s4 _ _ h3
    generalize upd H3 D4 (.lst (fs.map V.int)) = H4 at s4 h4 h34 ⊢
    rw [lst.fst] at h34
    refine ⟨D3, D4, _, _, fs, fs, rfl, rfl, SqL.of h34, SqL.of h4, prd_int fs, prd_int fs, _, rfl, ifn (by rw [decide_eq_true rfl]; rfl) ?_⟩
    -- their second ones
    have S4 := S3.trans s4
    have s24 := s3.trans s4
    have hk4 := s24 _ _ hk
    have pk4 := ld_same s24 pk
    refine ⟨_, rfl, k, rfl, ⟨_, SqL.of hk4⟩, comp_at ks ls (fun c => c.2) (SqL.of hk4) lk (fun i v c H' hv hc s Q2 h => ?_) (fit1000 (by omega)) fun D5 H5 D50 s5 h5 => ?_⟩
    · obtain ⟨y, hy, t, rfl, ht⟩ := prd_get pk4 hc
      rw [hv] at hy
      cases hy
      exact ⟨_, rfl, t, _, _, _, rfl, rfl, SqT.of (s _ _ ht), rfl, h H' (Same.refl _)⟩
    refine ⟨D5, _, rfl, by rw [List.length_map]; omega, .inl (SqL.of h5), fun D6 es D60 pm pw => ?_⟩
    have ee : es = ds := by
      have nd : ds.Nodup := td.1.imp fun h => Int.ne_of_lt h
      have pm2 : es.Perm ds := pm.trans lst.snd
      exact List.Perm.eq_of_pairwise (le := fun a b => a < b) (fun a b _ _ h1 h2 => absurd h1 (by omega)) (lt_of_le_nodup pw (pm2.nodup_iff.mpr nd)) td.1 pm2
    subst ee
    obtain ⟨s6, h6⟩ := new_all (o := .lst (es.map V.int)) D60
    generalize upd H5 D6 (.lst (es.map V.int)) = H6 at s6 h6 ⊢
    have S6 := S4.trans (s5.trans s6)
    refine ⟨_, rfl, p', _, rfl, .inr (SqT.of (S6 _ _ hp')), fun D7 D70 => ?_⟩
    obtain ⟨s7, h7⟩ := new_all (o := .lst (es.map V.int)) D70
    have h67 := s7 _ _ h6
    generalize upd H6 D7 (.lst (es.map V.int)) = H7 at s7 h7 h67 ⊢
    refine ⟨D6, D7, _, _, es, es, rfl, rfl, SqL.of h67, SqL.of h7, prd_int es, prd_int es, _, rfl, ifn (by rw [decide_eq_true rfl]; rfl) ?_⟩
    have s47 := (s5.trans s6).trans s7
    have s17 := (s2.trans s24).trans s47
    have hk7 := s47 _ _ hk4
    have pk7 := ld_same s47 pk4
    refine ⟨_, rfl, _, rfl, n, k, ks, ls, rfl, SqL.of hk7, pk7, hn, n24, by omega, fun ra H8 s8 h8 => ⟨ra, _, _, _, rfl, rfl, SqT.of h8, rfl, _, rfl, r, _, _, _, rfl, rfl, A1 (s17.trans s8), rfl, rfl, _, rfl, ifn (neF rfl) ?_⟩⟩
    -- the prices
    have s18 := s17.trans s8
    have S8 := s1.trans s18
    refine ⟨_, rfl, _, rfl, _, rfl, n, p, fs, p', es, rfl, S8 _ _ hp, S8 _ _ hp', tf, td, hn, n24, .inl ⟨hl, fun ls2 pp lst2 pc rr r1 r2 H9 s9 h9 hr1 hr2 => ?_⟩⟩
    have els := lst.one lst2
    subst els
    have s19 := s18.trans s9
    refine ⟨_, rfl, rr, _, _, _, rfl, rfl, SqT.of h9, rfl, r1, _, rfl, SqT.of hr1, _, rfl, rr, _, _, _, rfl, rfl, SqT.of h9, rfl, r2, _, rfl, SqT.of hr2, _, _, rfl, rfl, _, rfl, r, _, _, _, rfl, rfl, A1 s19, rfl, rfl, _, rfl, ifn (neF (prc_sum lst pp)) ?_⟩
    have hk9 := (s8.trans s9) _ _ hk7
    have pk9 := ld_same (s8.trans s9) pk7
    refine ⟨_, rfl, _, rfl, n, k, ks, ls, rfl, SqL.of hk9, pk9, hn, n24, by omega, fun rc cs HA rc0 sA hA pA => ?_⟩
    rw [lst.uncrossed hn] at pA
    cases pA
    refine ⟨rc, _, rfl, .inl (SqL.of hA), _, _, rfl, rfl, _, rfl, ifn (decide_eq_false (by decide)) ?_⟩
    -- the told list is cleared
    have s1A := s19.trans sA
    have hlA := s1A _ _ hl1
    refine ⟨_, rfl, r, _, _, _, rfl, rfl, A1 s1A, rfl, .inl ⟨rfl, _, SqL.of hlA⟩, l, ws, rfl, rfl, hlA, ?_⟩
    have SB : Same H (upd HA l (.lst [])) := (s1.trans s1A).upd l0
    have nrl : r ≠ l := fun e => by rw [e, hl1] at h1; cases h1
    have hrB : (upd HA l (.lst [])) r = some (.tup [.int (cst n ls), .ref l]) := by rw [upd_ne nrl]; exact s1A _ _ h1
    have hkB : (upd HA l (.lst [])) k = some (.lst ks) := by rw [upd_ne nkl]; exact sA _ _ hk9
    have tkB : TupKeep HA (upd HA l (.lst [])) := TupKeep.upd fun xs z => by rw [hlA] at z; cases z
    have pkB : Paired (LdR (upd HA l (.lst []))) ks ls := prd_imp (fun _ _ r => r.mono (sA.tk.trans tkB)) pk9
    generalize upd HA l (.lst []) = HB at SB hrB hkB pkB
    refine ⟨_, rfl, _, rfl, _, rfl, n, p, fs, p', es, rfl, SB _ _ hp, SB _ _ hp', tf, td, hn, n24, .inl ⟨hl, fun ls3 lst3 r3 l3 ws3 HC sC l30 h3 hl3 pr3 => ?_⟩⟩
    have els3 := lst.one lst3
    subst els3
    refine ⟨_, rfl, r3, _, _, _, rfl, rfl, SqT.of h3, rfl, _, rfl, r, _, _, _, rfl, rfl, SqT.of (sC _ _ hrB), rfl, rfl, true, by rw [decide_eq_true rfl], ifp rfl ?_⟩
    exact ⟨_, rfl, r3, _, _, _, rfl, rfl, SqT.of h3, rfl, _, rfl, l3, k, ws3, ks, ls, rfl, hl3, sC _ _ hkB, pr3, ld_same sC pkB, by omega, q HC (SB.trans sC)⟩
set_option maxHeartbeats 8000000 in
theorem ok_law {f : Addr} {fd : FuncData} (F : Fun K "law" "law" s_law f fd) (T : Txt K mg) (C_l_mixed : Has P w K mg base 2 "_law_mixed" ["_law_script", "_law_k", "_law_salt"] (sp_l_mixed w K)) (C_l_refused : Has P w K mg base 6 "_law_refused" ["_law_n", "_law_one", "_law_other"] (sp_l_refused w K)) (C_l_right : Has P w K mg base 7 "_law_right" ["_law_n", "_law_one", "_law_other"] (sp_l_right w K)) (C_l_sized : Has P w K mg base 4 "_law_sized" ["_law_script", "_law_k", "_law_salt", "_law_n", "_law_size"] (sp_l_sized w K)) (C_l_wheel : Has P w K mg base 3 "_law_wheel" ["_law_script", "_law_most"] (sp_l_wheel w K)) : FnOk P w K mg base CX0 8 f fd ["_law_script"] (sp_law w K) := by
  refine F.ok sc_law (fun vs H Q E h => ?_) (fun cdv A outer s H vs Q E hr h => ?_)
  · obtain ⟨a, ns, rfl, hS, hl, q⟩ := h
    rfl
  · obtain ⟨a, ns, rfl, hS, hl, q⟩ := h
    refine ⟨_, (@pss_cons _ _ _ _ _ (@ps_set _ _ 1 _ _ _ _ sc_law.nd rfl (Or.inl rfl) (@pe_callH _ _ _ _ _ _ _ _ _ _ C_l_wheel (hr.mono (by decide)) rfl (@pa_cons _ _ _ _ _ (pv 0) (@pa_cons _ _ _ _ _ pe_int pa_nil (by rfl)) (by rfl)) (by decide) (by rfl) (by rfl)) (by rfl) (by first | exact Or.inl rfl | exact Or.inr rfl))
      (@pss_cons _ _ _ _ _ (ps_for PassesOwn.never rfl (pi_range1 rfl T.b_range (@pa_cons _ _ _ _ _ (pe_callB (call_min2 rfl) (by rfl) T.b_min PyProof.Rows.boot_min (@pa_cons _ _ _ _ _ (@pe_op _ _ _ _ _ _ _ _ op_add (pe_callB call_len_seq (by rfl) T.b_len PySem.boot_len (@pa_cons _ _ _ _ _ (pv 0) pa_nil (by rfl))) pe_int) (@pa_cons _ _ _ _ _ pe_int pa_nil (by rfl)) (by rfl))) pa_nil (by rfl))) (pg_name (i := 2) sc_law.nd rfl (Or.inl rfl))
        (@pss_cons _ _ _ _ _ (@ps_set _ _ 3 _ _ _ _ sc_law.nd rfl (Or.inl rfl) (@pe_op _ _ _ _ _ _ _ _ op_mod (@pe_callH _ _ _ _ _ _ _ _ _ _ C_l_mixed (hr.mono (by decide)) rfl (@pa_cons _ _ _ _ _ (pv 0) (@pa_cons _ _ _ _ _ (pv 2) (@pa_cons _ _ _ _ _ pe_int pa_nil (by rfl)) (by rfl)) (by rfl)) (by decide) (by rfl) (by rfl)) (@pe_op _ _ _ _ _ _ _ _ op_add (pe_callB (call_min2 rfl) (by rfl) T.b_min PyProof.Rows.boot_min (@pa_cons _ _ _ _ _ (pv 1) (@pa_cons _ _ _ _ _ pe_int pa_nil (by rfl)) (by rfl))) pe_int)) (by rfl) (by first | exact Or.inl rfl | exact Or.inr rfl))
        (@pss_cons _ _ _ _ _ (@ps_set _ _ 4 _ _ _ _ sc_law.nd rfl (Or.inl rfl) (@pe_callH _ _ _ _ _ _ _ _ _ _ C_l_sized (hr.mono (by decide)) rfl (@pa_cons _ _ _ _ _ (pv 0) (@pa_cons _ _ _ _ _ (pv 2) (@pa_cons _ _ _ _ _ pe_int (@pa_cons _ _ _ _ _ (pv 1) (@pa_cons _ _ _ _ _ (pv 3) pa_nil (by rfl)) (by rfl)) (by rfl)) (by rfl)) (by rfl)) (by decide) (by rfl) (by rfl)) (by rfl) (by first | exact Or.inl rfl | exact Or.inr rfl))
        (@pss_cons _ _ _ _ _ (@ps_if _ _ _ _ _ _ _ _ (pt_not (pt_val (@pe_callH _ _ _ _ _ _ _ _ _ _ C_l_right (hr.mono (by decide)) rfl (@pa_cons _ _ _ _ _ (pv 1) (@pa_cons _ _ _ _ _ (pv 4) (@pa_cons _ _ _ _ _ (@pe_callH _ _ _ _ _ _ _ _ _ _ C_l_sized (hr.mono (by decide)) rfl (@pa_cons _ _ _ _ _ (pv 0) (@pa_cons _ _ _ _ _ (pv 2) (@pa_cons _ _ _ _ _ pe_int (@pa_cons _ _ _ _ _ (pv 1) (@pa_cons _ _ _ _ _ (pv 3) pa_nil (by rfl)) (by rfl)) (by rfl)) (by rfl)) (by rfl)) (by decide) (by rfl) (by rfl)) pa_nil (by rfl)) (by rfl)) (by rfl)) (by decide) (by rfl) (by rfl))))
          (@pss_one _ _ _ (@ps_ret _ _ _ _ pe_bl))
          pss_nil)
        (@pss_cons _ _ _ _ _ (@ps_set _ _ 5 _ _ _ _ sc_law.nd rfl (Or.inl rfl) (@pe_op _ _ _ _ _ _ _ _ op_mod (@pe_op _ _ _ _ _ _ _ _ op_add (@pe_op _ _ _ _ _ _ _ _ op_add (pv 3) pe_int) (@pe_op _ _ _ _ _ _ _ _ op_mod (@pe_callH _ _ _ _ _ _ _ _ _ _ C_l_mixed (hr.mono (by decide)) rfl (@pa_cons _ _ _ _ _ (pv 0) (@pa_cons _ _ _ _ _ (pv 2) (@pa_cons _ _ _ _ _ pe_int pa_nil (by rfl)) (by rfl)) (by rfl)) (by decide) (by rfl) (by rfl)) (pv 1))) (@pe_op _ _ _ _ _ _ _ _ op_add (pv 1) pe_int)) (by rfl) (by first | exact Or.inl rfl | exact Or.inr rfl))
        (@pss_one _ _ _ (@ps_if _ _ _ _ _ _ _ _ (pt_not (pt_val (@pe_callH _ _ _ _ _ _ _ _ _ _ C_l_refused (hr.mono (by decide)) rfl (@pa_cons _ _ _ _ _ (pv 1) (@pa_cons _ _ _ _ _ (pv 4) (@pa_cons _ _ _ _ _ (@pe_callH _ _ _ _ _ _ _ _ _ _ C_l_sized (hr.mono (by decide)) rfl (@pa_cons _ _ _ _ _ (pv 0) (@pa_cons _ _ _ _ _ (pv 2) (@pa_cons _ _ _ _ _ pe_int (@pa_cons _ _ _ _ _ (pv 1) (@pa_cons _ _ _ _ _ (pv 5) pa_nil (by rfl)) (by rfl)) (by rfl)) (by rfl)) (by rfl)) (by decide) (by rfl) (by rfl)) pa_nil (by rfl)) (by rfl)) (by rfl)) (by decide) (by rfl) (by rfl))))
          (@pss_one _ _ _ (@ps_ret _ _ _ _ pe_bl))
          pss_nil)))))))
      (@pss_one _ _ _ (@ps_ret _ _ _ _ pe_bl)))), ?_⟩
    have hlen : (ns.map V.int).length = ns.length := List.length_map _
    refine ⟨_, rfl, a, ns, rfl, hS, hl, fun n n3 n24 => ?_⟩
    have hn : 0 < n := by omega
    refine ⟨_, rfl, a, _, rfl, .inl hS, _, _, rfl, rfl, _, _, rfl, _, rfl, ?_, ?_, for_range (fun i σ H2 => ∃ (v1 v2 v3 v4 : Option V), σ = [some (.ref a), some (.int n), v1, v2, v3, v4] ∧ Same H H2) ⟨_, _, _, _, rfl, Same.refl H⟩ ?_ ?_⟩
    · rw [hlen]; split <;> omega
    · rw [hlen]; split <;> omega
    · rintro i σ H2 hi ⟨v1, v2, v3, v4, rfl, s2⟩
      have hi' : i < 40 := by
        rw [hlen] at hi
        have : (if (8 : Int) < (ns.length : Int) + 2 then (8 : Int) else (ns.length : Int) + 2).toNat ≤ 8 := by split <;> omega
        omega
      refine ⟨_, rfl, _, rfl, a, ns, _, 22, rfl, s2.seq hS, hl, ⟨by omega, by omega⟩, ⟨by decide, by decide⟩, fun c c0 c1 => ?_⟩
      refine ⟨_, rfl, _, _, rfl, _, _, rfl, rfl, ?_⟩
      have mb : 3 ≤ (if (12 : Int) < n then (12 : Int) else n) ∧ (if (12 : Int) < n then (12 : Int) else n) ≤ n := by split <;> omega
      dsimp only
      generalize (if (12 : Int) < n then (12 : Int) else n) = mn at mb ⊢
      refine ⟨_, _, rfl, rfl, (by omega), ?_⟩
      have m0 := mod_lo c (n := mn + 1) (by omega)
      have m1 := mod_hi c (n := mn + 1) (by omega)
      dsimp only
      generalize c % (mn + 1) = m at m0 m1 ⊢
      refine ⟨_, rfl, _, rfl, _, rfl, _, rfl, a, ns, _, 20, n, m, rfl, s2.seq hS, hl, ⟨by omega, by omega⟩, ⟨by decide, by decide⟩, hn, n24, m0, by omega, fun f1 lf1 p H3 s3 hp => ?_⟩
      have tf := cw_tones n f1
      generalize cw n f1 = fs at hp lf1 tf
      have S3 := s2.trans s3
      refine ⟨_, rfl, _, rfl, _, rfl, _, rfl, _, rfl, _, rfl, a, ns, _, 21, n, m, rfl, S3.seq hS, hl, ⟨by omega, by omega⟩, ⟨by decide, by decide⟩, hn, n24, m0, by omega, fun f2 lf2 p' H4 s4 hp' => ?_⟩
      have td := cw_tones n f2
      generalize cw n f2 = ds at hp' lf2 td
      refine ⟨n, p, fs, p', ds, rfl, s4 _ _ hp, hp', tf, td, by omega, hn, n24, fun H5 s5 => ⟨true, rfl, ifn rfl ?_⟩⟩
      have S5 := S3.trans (s4.trans s5)
      refine ⟨_, rfl, _, _, rfl, rfl, _, rfl, _, rfl, a, ns, _, 23, rfl, S5.seq hS, hl, ⟨by omega, by omega⟩, ⟨by decide, by decide⟩, fun c2 c20 c21 => ?_⟩
      have q0 := mod_lo c2 hn
      have q1 := mod_hi c2 hn
      refine ⟨_, rfl, _, _, rfl, rfl, hn, _, _, rfl, rfl, _, rfl, _, _, rfl, rfl, _, _, rfl, rfl, (by omega), ?_⟩
      have u0 := mod_lo (m + 1 + c2 % n) (n := n + 1) (by omega)
      have u1 := mod_hi (m + 1 + c2 % n) (n := n + 1) (by omega)
      have un : (m + 1 + c2 % n) % (n + 1) ≠ m := by
        intro z
        by_cases y : m + 1 + c2 % n < n + 1
        · rw [Int.emod_eq_of_lt (by omega) y] at z
          omega
        · rw [emod_eq (y := m + 1 + c2 % n - (n + 1)) 1 (by omega), Int.emod_eq_of_lt (by omega) (by omega)] at z
          omega
      dsimp only
      generalize (m + 1 + c2 % n) % (n + 1) = m2 at u0 u1 un ⊢
      refine ⟨_, rfl, _, rfl, _, rfl, _, rfl, _, rfl, _, rfl, a, ns, _, 21, n, m2, rfl, S5.seq hS, hl, ⟨by omega, by omega⟩, ⟨by decide, by decide⟩, hn, n24, u0, by omega, fun f3 lf3 p3 H6 s6 hp3 => ?_⟩
      have t3 := cw_tones n f3
      generalize cw n f3 = es at hp3 lf3 t3
      refine ⟨n, p, fs, p3, es, rfl, (s4.trans (s5.trans s6)) _ _ hp, hp3, tf, t3, by omega, hn, n24, fun H7 s7 => ⟨true, rfl, ifn rfl ?_⟩⟩
      exact ⟨_, _, _, _, rfl, S5.trans (s6.trans s7)⟩
    · rintro σ H2 ⟨v1, v2, v3, v4, rfl, s2⟩
      exact q _
end
set_option maxHeartbeats 8000000 in
theorem all_mk {l : PySem.W.OpenLaw} {w : World} {K : PySem.W.Frag} {h : Heap} {mg : Str → Option Value} {fa : Addr} (X : K.In h) (G : h.Ns mainGlobals mg) (hfa : mg "law" = some (.ref fa))
    {f1 : Addr} {od1 an1 : Option Addr} {sl1 : Array (Option Value)} {oc1 kV1 dc1 pm1 cd1 ct1 : Value}
    {f2 : Addr} {od2 an2 : Option Addr} {sl2 : Array (Option Value)} {oc2 kV2 dc2 pm2 cd2 ct2 : Value}
    {f3 : Addr} {od3 an3 : Option Addr} {sl3 : Array (Option Value)} {oc3 kV3 dc3 pm3 cd3 ct3 : Value}
    {f4 : Addr} {od4 an4 : Option Addr} {sl4 : Array (Option Value)} {oc4 kV4 dc4 pm4 cd4 ct4 : Value}
    {f5 : Addr} {od5 an5 : Option Addr} {sl5 : Array (Option Value)} {oc5 kV5 dc5 pm5 cd5 ct5 : Value}
    {f6 : Addr} {od6 an6 : Option Addr} {sl6 : Array (Option Value)} {oc6 kV6 dc6 pm6 cd6 ct6 : Value}
    {f7 : Addr} {od7 an7 : Option Addr} {sl7 : Array (Option Value)} {oc7 kV7 dc7 pm7 cd7 ct7 : Value}
    {f8 : Addr} {od8 an8 : Option Addr} {sl8 : Array (Option Value)} {oc8 kV8 dc8 pm8 cd8 ct8 : Value}
    {f9 : Addr} {od9 an9 : Option Addr} {sl9 : Array (Option Value)} {oc9 kV9 dc9 pm9 cd9 ct9 : Value}
    {f10 : Addr} {od10 an10 : Option Addr} {sl10 : Array (Option Value)} {oc10 kV10 dc10 pm10 cd10 ct10 : Value}
    {f11 : Addr} {od11 an11 : Option Addr} {sl11 : Array (Option Value)} {oc11 kV11 dc11 pm11 cd11 ct11 : Value}
    {f12 : Addr} {od12 an12 : Option Addr} {sl12 : Array (Option Value)} {oc12 kV12 dc12 pm12 cd12 ct12 : Value}
    {f13 : Addr} {od13 an13 : Option Addr} {sl13 : Array (Option Value)} {oc13 kV13 dc13 pm13 cd13 ct13 : Value}
    {f14 : Addr} {od14 an14 : Option Addr} {sl14 : Array (Option Value)} {oc14 kV14 dc14 pm14 cd14 ct14 : Value}
    {f15 : Addr} {od15 an15 : Option Addr} {sl15 : Array (Option Value)} {oc15 kV15 dc15 pm15 cd15 ct15 : Value}
    {f16 : Addr} {od16 an16 : Option Addr} {sl16 : Array (Option Value)} {oc16 kV16 dc16 pm16 cd16 ct16 : Value}
    {f17 : Addr} {od17 an17 : Option Addr} {sl17 : Array (Option Value)} {oc17 kV17 dc17 pm17 cd17 ct17 : Value}
    {f18 : Addr} {od18 an18 : Option Addr} {sl18 : Array (Option Value)} {oc18 kV18 dc18 pm18 cd18 ct18 : Value}
    {f19 : Addr} {od19 an19 : Option Addr} {sl19 : Array (Option Value)} {oc19 kV19 dc19 pm19 cd19 ct19 : Value}
    {f20 : Addr} {od20 an20 : Option Addr} {sl20 : Array (Option Value)} {oc20 kV20 dc20 pm20 cd20 ct20 : Value}
    {f21 : Addr} {od21 an21 : Option Addr} {sl21 : Array (Option Value)} {oc21 kV21 dc21 pm21 cd21 ct21 : Value}
    {f22 : Addr} {od22 an22 : Option Addr} {sl22 : Array (Option Value)} {oc22 kV22 dc22 pm22 cd22 ct22 : Value}
    {f23 : Addr} {od23 an23 : Option Addr} {sl23 : Array (Option Value)} {oc23 kV23 dc23 pm23 cd23 ct23 : Value}
    {f24 : Addr} {od24 an24 : Option Addr} {sl24 : Array (Option Value)} {oc24 kV24 dc24 pm24 cd24 ct24 : Value}
    {f25 : Addr} {od25 an25 : Option Addr} {sl25 : Array (Option Value)} {oc25 kV25 dc25 pm25 cd25 ct25 : Value}
    {gNoLeading : Addr} {eNoLeading : ClassData}
    (a1 : PySem.W.nsIn K mainGlobals "step" = some (some (.ref f1))) (l1 : K.lookup f1 = some ⟨oc1, od1, .func (PySem.W.fnOf "step" "step" (defArgs s_step) (defBody s_step) (defScope s_step) .none kV1 dc1 pm1 an1 cd1 ct1), sl1⟩) (c1 : PySem.W.codeIn K cd1 "step" = true) (k1 : PySem.W.keepIn K (.ref f1) = true)
    (a2 : PySem.W.nsIn K mainGlobals "distance" = some (some (.ref f2))) (l2 : K.lookup f2 = some ⟨oc2, od2, .func (PySem.W.fnOf "distance" "distance" (defArgs s_distance) (defBody s_distance) (defScope s_distance) .none kV2 dc2 pm2 an2 cd2 ct2), sl2⟩) (c2 : PySem.W.codeIn K cd2 "distance" = true) (k2 : PySem.W.keepIn K (.ref f2) = true)
    (a3 : PySem.W.nsIn K mainGlobals "move" = some (some (.ref f3))) (l3 : K.lookup f3 = some ⟨oc3, od3, .func (PySem.W.fnOf "move" "move" (defArgs s_move) (defBody s_move) (defScope s_move) .none kV3 dc3 pm3 an3 cd3 ct3), sl3⟩) (c3 : PySem.W.codeIn K cd3 "move" = true) (k3 : PySem.W.keepIn K (.ref f3) = true)
    (a4 : PySem.W.nsIn K mainGlobals "cost" = some (some (.ref f4))) (l4 : K.lookup f4 = some ⟨oc4, od4, .func (PySem.W.fnOf "cost" "cost" (defArgs s_cost) (defBody s_cost) (defScope s_cost) .none kV4 dc4 pm4 an4 cd4 ct4), sl4⟩) (c4 : PySem.W.codeIn K cd4 "cost" = true) (k4 : PySem.W.keepIn K (.ref f4) = true)
    (a5 : PySem.W.nsIn K mainGlobals "square" = some (some (.ref f5))) (l5 : K.lookup f5 = some ⟨oc5, od5, .func (PySem.W.fnOf "square" "square" (defArgs s_square) (defBody s_square) (defScope s_square) .none kV5 dc5 pm5 an5 cd5 ct5), sl5⟩) (c5 : PySem.W.codeIn K cd5 "square" = true) (k5 : PySem.W.keepIn K (.ref f5) = true)
    (a6 : PySem.W.nsIn K mainGlobals "turned_round" = some (some (.ref f6))) (l6 : K.lookup f6 = some ⟨oc6, od6, .func (PySem.W.fnOf "turned_round" "turned_round" (defArgs s_turned_round) (defBody s_turned_round) (defScope s_turned_round) .none kV6 dc6 pm6 an6 cd6 ct6), sl6⟩) (c6 : PySem.W.codeIn K cd6 "turned_round" = true) (k6 : PySem.W.keepIn K (.ref f6) = true)
    (a7 : PySem.W.nsIn K mainGlobals "rank" = some (some (.ref f7))) (l7 : K.lookup f7 = some ⟨oc7, od7, .func (PySem.W.fnOf "rank" "rank" (defArgs s_rank) (defBody s_rank) (defScope s_rank) .none kV7 dc7 pm7 an7 cd7 ct7), sl7⟩) (c7 : PySem.W.codeIn K cd7 "rank" = true) (k7 : PySem.W.keepIn K (.ref f7) = true)
    (a8 : PySem.W.nsIn K mainGlobals "least_leading" = some (some (.ref f8))) (l8 : K.lookup f8 = some ⟨oc8, od8, .func (PySem.W.fnOf "least_leading" "least_leading" (defArgs s_least_leading) (defBody s_least_leading) (defScope s_least_leading) .none kV8 dc8 pm8 an8 cd8 ct8), sl8⟩) (c8 : PySem.W.codeIn K cd8 "least_leading" = true) (k8 : PySem.W.keepIn K (.ref f8) = true)
    (a9 : PySem.W.nsIn K mainGlobals "more_than_own" = some (some (.ref f9))) (l9 : K.lookup f9 = some ⟨oc9, od9, .func (PySem.W.fnOf "more_than_own" "more_than_own" (defArgs s_more_than_own) (defBody s_more_than_own) (defScope s_more_than_own) .none kV9 dc9 pm9 an9 cd9 ct9), sl9⟩) (c9 : PySem.W.codeIn K cd9 "more_than_own" = true) (k9 : PySem.W.keepIn K (.ref f9) = true)
    (a10 : PySem.W.nsIn K mainGlobals "lowered" = some (some (.ref f10))) (l10 : K.lookup f10 = some ⟨oc10, od10, .func (PySem.W.fnOf "lowered" "lowered" (defArgs s_lowered) (defBody s_lowered) (defScope s_lowered) .none kV10 dc10 pm10 an10 cd10 ct10), sl10⟩) (c10 : PySem.W.codeIn K cd10 "lowered" = true) (k10 : PySem.W.keepIn K (.ref f10) = true)
    (a11 : PySem.W.nsIn K mainGlobals "prices" = some (some (.ref f11))) (l11 : K.lookup f11 = some ⟨oc11, od11, .func (PySem.W.fnOf "prices" "prices" (defArgs s_prices) (defBody s_prices) (defScope s_prices) .none kV11 dc11 pm11 an11 cd11 ct11), sl11⟩) (c11 : PySem.W.codeIn K cd11 "prices" = true) (k11 : PySem.W.keepIn K (.ref f11) = true)
    (a12 : PySem.W.nsIn K mainGlobals "_law_cell_at" = some (some (.ref f12))) (l12 : K.lookup f12 = some ⟨oc12, od12, .func (PySem.W.fnOf "_law_cell_at" "_law_cell_at" (defArgs s_l_cell_at) (defBody s_l_cell_at) (defScope s_l_cell_at) .none kV12 dc12 pm12 an12 cd12 ct12), sl12⟩) (c12 : PySem.W.codeIn K cd12 "_law_cell_at" = true) (k12 : PySem.W.keepIn K (.ref f12) = true)
    (a13 : PySem.W.nsIn K mainGlobals "_law_mixed" = some (some (.ref f13))) (l13 : K.lookup f13 = some ⟨oc13, od13, .func (PySem.W.fnOf "_law_mixed" "_law_mixed" (defArgs s_l_mixed) (defBody s_l_mixed) (defScope s_l_mixed) .none kV13 dc13 pm13 an13 cd13 ct13), sl13⟩) (c13 : PySem.W.codeIn K cd13 "_law_mixed" = true) (k13 : PySem.W.keepIn K (.ref f13) = true)
    (a14 : PySem.W.nsIn K mainGlobals "_law_wheel" = some (some (.ref f14))) (l14 : K.lookup f14 = some ⟨oc14, od14, .func (PySem.W.fnOf "_law_wheel" "_law_wheel" (defArgs s_l_wheel) (defBody s_l_wheel) (defScope s_l_wheel) .none kV14 dc14 pm14 an14 cd14 ct14), sl14⟩) (c14 : PySem.W.codeIn K cd14 "_law_wheel" = true) (k14 : PySem.W.keepIn K (.ref f14) = true)
    (a15 : PySem.W.nsIn K mainGlobals "_law_row" = some (some (.ref f15))) (l15 : K.lookup f15 = some ⟨oc15, od15, .func (PySem.W.fnOf "_law_row" "_law_row" (defArgs s_l_row) (defBody s_l_row) (defScope s_l_row) .none kV15 dc15 pm15 an15 cd15 ct15), sl15⟩) (c15 : PySem.W.codeIn K cd15 "_law_row" = true) (k15 : PySem.W.keepIn K (.ref f15) = true)
    (a16 : PySem.W.nsIn K mainGlobals "_law_sized" = some (some (.ref f16))) (l16 : K.lookup f16 = some ⟨oc16, od16, .func (PySem.W.fnOf "_law_sized" "_law_sized" (defArgs s_l_sized) (defBody s_l_sized) (defScope s_l_sized) .none kV16 dc16 pm16 an16 cd16 ct16), sl16⟩) (c16 : PySem.W.codeIn K cd16 "_law_sized" = true) (k16 : PySem.W.keepIn K (.ref f16) = true)
    (a17 : PySem.W.nsIn K mainGlobals "_law_whole" = some (some (.ref f17))) (l17 : K.lookup f17 = some ⟨oc17, od17, .func (PySem.W.fnOf "_law_whole" "_law_whole" (defArgs s_l_whole) (defBody s_l_whole) (defScope s_l_whole) .none kV17 dc17 pm17 an17 cd17 ct17), sl17⟩) (c17 : PySem.W.codeIn K cd17 "_law_whole" = true) (k17 : PySem.W.keepIn K (.ref f17) = true)
    (a18 : PySem.W.nsIn K mainGlobals "_law_move" = some (some (.ref f18))) (l18 : K.lookup f18 = some ⟨oc18, od18, .func (PySem.W.fnOf "_law_move" "_law_move" (defArgs s_l_move) (defBody s_l_move) (defScope s_l_move) .none kV18 dc18 pm18 an18 cd18 ct18), sl18⟩) (c18 : PySem.W.codeIn K cd18 "_law_move" = true) (k18 : PySem.W.keepIn K (.ref f18) = true)
    (a19 : PySem.W.nsIn K mainGlobals "_law_prices_of" = some (some (.ref f19))) (l19 : K.lookup f19 = some ⟨oc19, od19, .func (PySem.W.fnOf "_law_prices_of" "_law_prices_of" (defArgs s_l_prices_of) (defBody s_l_prices_of) (defScope s_l_prices_of) .none kV19 dc19 pm19 an19 cd19 ct19), sl19⟩) (c19 : PySem.W.codeIn K cd19 "_law_prices_of" = true) (k19 : PySem.W.keepIn K (.ref f19) = true)
    (a20 : PySem.W.nsIn K mainGlobals "_law_cross" = some (some (.ref f20))) (l20 : K.lookup f20 = some ⟨oc20, od20, .func (PySem.W.fnOf "_law_cross" "_law_cross" (defArgs s_l_cross) (defBody s_l_cross) (defScope s_l_cross) .none kV20 dc20 pm20 an20 cd20 ct20), sl20⟩) (c20 : PySem.W.codeIn K cd20 "_law_cross" = true) (k20 : PySem.W.keepIn K (.ref f20) = true)
    (a21 : PySem.W.nsIn K mainGlobals "_law_crossings" = some (some (.ref f21))) (l21 : K.lookup f21 = some ⟨oc21, od21, .func (PySem.W.fnOf "_law_crossings" "_law_crossings" (defArgs s_l_crossings) (defBody s_l_crossings) (defScope s_l_crossings) .none kV21 dc21 pm21 an21 cd21 ct21), sl21⟩) (c21 : PySem.W.codeIn K cd21 "_law_crossings" = true) (k21 : PySem.W.keepIn K (.ref f21) = true)
    (a22 : PySem.W.nsIn K mainGlobals "_law_same_pairs" = some (some (.ref f22))) (l22 : K.lookup f22 = some ⟨oc22, od22, .func (PySem.W.fnOf "_law_same_pairs" "_law_same_pairs" (defArgs s_l_same_pairs) (defBody s_l_same_pairs) (defScope s_l_same_pairs) .none kV22 dc22 pm22 an22 cd22 ct22), sl22⟩) (c22 : PySem.W.codeIn K cd22 "_law_same_pairs" = true) (k22 : PySem.W.keepIn K (.ref f22) = true)
    (a23 : PySem.W.nsIn K mainGlobals "_law_refused" = some (some (.ref f23))) (l23 : K.lookup f23 = some ⟨oc23, od23, .func (PySem.W.fnOf "_law_refused" "_law_refused" (defArgs s_l_refused) (defBody s_l_refused) (defScope s_l_refused) .none kV23 dc23 pm23 an23 cd23 ct23), sl23⟩) (c23 : PySem.W.codeIn K cd23 "_law_refused" = true) (k23 : PySem.W.keepIn K (.ref f23) = true)
    (a24 : PySem.W.nsIn K mainGlobals "_law_right" = some (some (.ref f24))) (l24 : K.lookup f24 = some ⟨oc24, od24, .func (PySem.W.fnOf "_law_right" "_law_right" (defArgs s_l_right) (defBody s_l_right) (defScope s_l_right) .none kV24 dc24 pm24 an24 cd24 ct24), sl24⟩) (c24 : PySem.W.codeIn K cd24 "_law_right" = true) (k24 : PySem.W.keepIn K (.ref f24) = true)
    (a25 : PySem.W.nsIn K mainGlobals "law" = some (some (.ref f25))) (l25 : K.lookup f25 = some ⟨oc25, od25, .func (PySem.W.fnOf "law" "law" (defArgs s_law) (defBody s_law) (defScope s_law) .none kV25 dc25 pm25 an25 cd25 ct25), sl25⟩) (c25 : PySem.W.codeIn K cd25 "law" = true) (k25 : PySem.W.keepIn K (.ref f25) = true)
    (z_len : PySem.W.nsIn K mainGlobals "len" = some none)
    (z_max : PySem.W.nsIn K mainGlobals "max" = some none)
    (z_min : PySem.W.nsIn K mainGlobals "min" = some none)
    (z_range : PySem.W.nsIn K mainGlobals "range" = some none)
    (z_isinstance : PySem.W.nsIn K mainGlobals "isinstance" = some none)
    (z_int : PySem.W.nsIn K mainGlobals "int" = some none)
    (z_bool : PySem.W.nsIn K mainGlobals "bool" = some none)
    (z_tuple : PySem.W.nsIn K mainGlobals "tuple" = some none)
    (z_sorted : PySem.W.nsIn K mainGlobals "sorted" = some none)
    (z_list : PySem.W.nsIn K mainGlobals "list" = some none)
    (z_sum : PySem.W.nsIn K mainGlobals "sum" = some none)
    (z_abs : PySem.W.nsIn K mainGlobals "abs" = some none)
    (z_zip : PySem.W.nsIn K mainGlobals "zip" = some none)
    (z_dict : PySem.W.nsIn K mainGlobals "dict" = some none)
    (z_ValueError : PySem.W.nsIn K mainGlobals "ValueError" = some none)
    (g1NoLeading : PySem.W.nsIn K mainGlobals "NoLeading" = some (some (.ref gNoLeading)))
    (g2NoLeading : PySem.W.excIn K gNoLeading [.type "ValueError", .type "Exception", .type "BaseException", .type "object"] "ValueError.__new__" = true)
    (g3NoLeading : PySem.W.exmOne K (.ref gNoLeading) (.ref gNoLeading) = some true)
    (g4NoLeading : PySem.W.clsIn K gNoLeading = some eNoLeading)
    (g5NoLeading : PySem.W.findIn K (.ref gNoLeading) "__getattribute__" = some (some (.builtin "BaseException.__getattribute__")))
    (g6NoLeading : PySem.W.findIn K (.ref gNoLeading) "__getattr__" = some none)
    (g7NoLeading : PySem.W.findIn K (.ref gNoLeading) "__class__" = some (some (.builtin "object.__class__")))
    (g8NoLeading : PySem.W.specialIn K (.builtin "object.__class__") "__get__" = some (some (.builtin "getset_descriptor.__get__")))
    (g9NoLeading : PySem.W.takesIn K (.builtin "object.__class__") = some true)
    (h1NoLeading : PySem.W.mroIn K gNoLeading (.type "object") = some true)
    (h2NoLeading : PySem.W.mroIn K gNoLeading (.type "BaseException") = some true)
    (h3NoLeading : PySem.W.kitOne K (.ref gNoLeading) (.ref gNoLeading) = some true)
    (h4NoLeading : PySem.W.kitOne K (.ref gNoLeading) (.type "ValueError") = some true)
    (h5NoLeading : PySem.W.kitAny K (.ref gNoLeading) [] = some false) :
    ∃ fd : FuncData, (∀ (s : Shared) (v : Value), BindsTo s fd ⟨[v], []⟩ [("_law_script", v)]) ∧ ∀ base : Heap, K.In base → base.Ns mainGlobals mg → FnOk l.prog w K mg base CX0 8 fa fd ["_law_script"] (sp_law w K) := by
  have e := hfa.symm.trans (PySem.W.mg_of X G a25)
  cases e
  have T : Txt K mg := ⟨PySem.W.mg_none_of X G z_len, PySem.W.mg_none_of X G z_max, PySem.W.mg_none_of X G z_min, PySem.W.mg_none_of X G z_range, PySem.W.mg_none_of X G z_isinstance, PySem.W.mg_none_of X G z_int, PySem.W.mg_none_of X G z_bool, PySem.W.mg_none_of X G z_tuple, PySem.W.mg_none_of X G z_sorted, PySem.W.mg_none_of X G z_list, PySem.W.mg_none_of X G z_sum, PySem.W.mg_none_of X G z_abs, PySem.W.mg_none_of X G z_zip, PySem.W.mg_none_of X G z_dict, PySem.W.mg_none_of X G z_ValueError, ⟨_, PySem.W.mg_of X G g1NoLeading, g1NoLeading, g2NoLeading, g3NoLeading, ⟨by rw [g4NoLeading]; rfl, g5NoLeading, g6NoLeading, g7NoLeading, g8NoLeading, g9NoLeading, h1NoLeading, h2NoLeading⟩, h3NoLeading, h4NoLeading, h5NoLeading⟩⟩
  have F1 := fun_mk (st := s_step) l1 c1 k1
  have F2 := fun_mk (st := s_distance) l2 c2 k2
  have F3 := fun_mk (st := s_move) l3 c3 k3
  have F4 := fun_mk (st := s_cost) l4 c4 k4
  have F5 := fun_mk (st := s_square) l5 c5 k5
  have F6 := fun_mk (st := s_turned_round) l6 c6 k6
  have F7 := fun_mk (st := s_rank) l7 c7 k7
  have F8 := fun_mk (st := s_least_leading) l8 c8 k8
  have F9 := fun_mk (st := s_more_than_own) l9 c9 k9
  have F10 := fun_mk (st := s_lowered) l10 c10 k10
  have F11 := fun_mk (st := s_prices) l11 c11 k11
  have F12 := fun_mk (st := s_l_cell_at) l12 c12 k12
  have F13 := fun_mk (st := s_l_mixed) l13 c13 k13
  have F14 := fun_mk (st := s_l_wheel) l14 c14 k14
  have F15 := fun_mk (st := s_l_row) l15 c15 k15
  have F16 := fun_mk (st := s_l_sized) l16 c16 k16
  have F17 := fun_mk (st := s_l_whole) l17 c17 k17
  have F18 := fun_mk (st := s_l_move) l18 c18 k18
  have F19 := fun_mk (st := s_l_prices_of) l19 c19 k19
  have F20 := fun_mk (st := s_l_cross) l20 c20 k20
  have F21 := fun_mk (st := s_l_crossings) l21 c21 k21
  have F22 := fun_mk (st := s_l_same_pairs) l22 c22 k22
  have F23 := fun_mk (st := s_l_refused) l23 c23 k23
  have F24 := fun_mk (st := s_l_right) l24 c24 k24
  have F25 := fun_mk (st := s_law) l25 c25 k25
  refine ⟨PySem.W.fnOf "law" "law" (defArgs s_law) (defBody s_law) (defScope s_law) .none kV25 dc25 pm25 an25 cd25 ct25, fun s v => .of_eq rfl, fun base _ _ => ?_⟩
  have C_step : Has l.prog w K mg base 1 "step" ["n", "one", "other"] (sp_step w K) := ⟨_, _, ok_step F1 T , PySem.W.mg_of X G a1, k1, F1.binds fun _ _ _ _ _ _ us hl => match us, hl with | [_, _, _], _ => rfl⟩
  have C_distance : Has l.prog w K mg base 2 "distance" ["n", "one", "other"] (sp_distance w K) := ⟨_, _, ok_distance F2 T C_step, PySem.W.mg_of X G a2, k2, F2.binds fun _ _ _ _ _ _ us hl => match us, hl with | [_, _, _], _ => rfl⟩
  have C_move : Has l.prog w K mg base 2 "move" ["n", "one", "other"] (sp_move w K) := ⟨_, _, ok_move F3 T C_step, PySem.W.mg_of X G a3, k3, F3.binds fun _ _ _ _ _ _ us hl => match us, hl with | [_, _, _], _ => rfl⟩
  have C_cost : Has l.prog w K mg base 3 "cost" ["n", "leading"] (sp_cost w K) := ⟨_, _, ok_cost F4 T C_distance, PySem.W.mg_of X G a4, k4, F4.binds fun _ _ _ _ _ _ us hl => match us, hl with | [_, _], _ => rfl⟩
  have C_square : Has l.prog w K mg base 3 "square" ["n", "leading"] (sp_square w K) := ⟨_, _, ok_square F5 T C_move, PySem.W.mg_of X G a5, k5, F5.binds fun _ _ _ _ _ _ us hl => match us, hl with | [_, _], _ => rfl⟩
  have C_turned_round : Has l.prog w K mg base 1 "turned_round" ["tones"] (sp_turned_round w K) := ⟨_, _, ok_turned_round F6 T , PySem.W.mg_of X G a6, k6, F6.binds fun _ _ _ _ _ _ us hl => match us, hl with | [_], _ => rfl⟩
  have C_rank : Has l.prog w K mg base 4 "rank" ["n", "one", "seconds"] (sp_rank w K) := ⟨_, _, ok_rank F7 T C_cost C_square, PySem.W.mg_of X G a7, k7, F7.binds fun _ _ _ _ _ _ us hl => match us, hl with | [_, _, _], _ => rfl⟩
  have C_least_leading : HasX l.prog w K mg base 5 "least_leading" ["n", "one", "other"] (sp_least_leading w K) := ⟨_, _, ok_least_leading F8 T C_rank C_turned_round, PySem.W.mg_of X G a8, k8, F8.binds fun _ _ _ _ _ _ us hl => match us, hl with | [_, _, _], _ => rfl⟩
  have C_more_than_own : Has l.prog w K mg base 3 "more_than_own" ["n", "pair", "tone"] (sp_more_than_own w K) := ⟨_, _, ok_more_than_own F9 T C_distance, PySem.W.mg_of X G a9, k9, F9.binds fun _ _ _ _ _ _ us hl => match us, hl with | [_, _, _], _ => rfl⟩
  have C_lowered : Has l.prog w K mg base 4 "lowered" ["n", "leading", "second_prices"] (sp_lowered w K) := ⟨_, _, ok_lowered F10 T C_more_than_own, PySem.W.mg_of X G a10, k10, F10.binds fun _ _ _ _ _ _ us hl => match us, hl with | [_, _, _], _ => rfl⟩
  have C_prices : HasX l.prog w K mg base 6 "prices" ["n", "one", "other"] (sp_prices w K) := ⟨_, _, ok_prices F11 T C_distance C_least_leading C_lowered, PySem.W.mg_of X G a11, k11, F11.binds fun _ _ _ _ _ _ us hl => match us, hl with | [_, _, _], _ => rfl⟩
  have C_l_cell_at : Has l.prog w K mg base 1 "_law_cell_at" ["_law_script", "_law_k"] (sp_l_cell_at w K) := ⟨_, _, ok_l_cell_at F12 T , PySem.W.mg_of X G a12, k12, F12.binds fun _ _ _ _ _ _ us hl => match us, hl with | [_, _], _ => rfl⟩
  have C_l_mixed : Has l.prog w K mg base 2 "_law_mixed" ["_law_script", "_law_k", "_law_salt"] (sp_l_mixed w K) := ⟨_, _, ok_l_mixed F13 T C_l_cell_at, PySem.W.mg_of X G a13, k13, F13.binds fun _ _ _ _ _ _ us hl => match us, hl with | [_, _, _], _ => rfl⟩
  have C_l_wheel : Has l.prog w K mg base 3 "_law_wheel" ["_law_script", "_law_most"] (sp_l_wheel w K) := ⟨_, _, ok_l_wheel F14 T C_l_mixed, PySem.W.mg_of X G a14, k14, F14.binds fun _ _ _ _ _ _ us hl => match us, hl with | [_, _], _ => rfl⟩
  have C_l_row : Has l.prog w K mg base 3 "_law_row" ["_law_script", "_law_k", "_law_salt", "_law_n"] (sp_l_row w K) := ⟨_, _, ok_l_row F15 T C_l_mixed, PySem.W.mg_of X G a15, k15, F15.binds fun _ _ _ _ _ _ us hl => match us, hl with | [_, _, _, _], _ => rfl⟩
  have C_l_sized : Has l.prog w K mg base 4 "_law_sized" ["_law_script", "_law_k", "_law_salt", "_law_n", "_law_size"] (sp_l_sized w K) := ⟨_, _, ok_l_sized F16 T C_l_row, PySem.W.mg_of X G a16, k16, F16.binds fun _ _ _ _ _ _ us hl => match us, hl with | [_, _, _, _, _], _ => rfl⟩
  have C_l_whole : Has l.prog w K mg base 1 "_law_whole" ["_law_found"] (sp_l_whole w K) := ⟨_, _, ok_l_whole F17 T , PySem.W.mg_of X G a17, k17, F17.binds fun _ _ _ _ _ _ us hl => match us, hl with | [_], _ => rfl⟩
  have C_l_move : Has l.prog w K mg base 1 "_law_move" ["_law_n", "_law_one", "_law_other"] (sp_l_move w K) := ⟨_, _, ok_l_move F18 T , PySem.W.mg_of X G a18, k18, F18.binds fun _ _ _ _ _ _ us hl => match us, hl with | [_, _, _], _ => rfl⟩
  have C_l_prices_of : Has l.prog w K mg base 2 "_law_prices_of" ["_law_n", "_law_leading"] (sp_l_prices_of w K) := ⟨_, _, ok_l_prices_of F19 T C_l_move, PySem.W.mg_of X G a19, k19, F19.binds fun _ _ _ _ _ _ us hl => match us, hl with | [_, _], _ => rfl⟩
  have C_l_cross : Has l.prog w K mg base 2 "_law_cross" ["_law_n", "_law_one", "_law_other"] (sp_l_cross w K) := ⟨_, _, ok_l_cross F20 T C_l_move, PySem.W.mg_of X G a20, k20, F20.binds fun _ _ _ _ _ _ us hl => match us, hl with | [_, _, _], _ => rfl⟩
  have C_l_crossings : Has l.prog w K mg base 3 "_law_crossings" ["_law_n", "_law_leading"] (sp_l_crossings w K) := ⟨_, _, ok_l_crossings F21 T C_l_cross, PySem.W.mg_of X G a21, k21, F21.binds fun _ _ _ _ _ _ us hl => match us, hl with | [_, _], _ => rfl⟩
  have C_l_same_pairs : Has l.prog w K mg base 2 "_law_same_pairs" ["_law_found", "_law_due"] (sp_l_same_pairs w K) := ⟨_, _, ok_l_same_pairs F22 T C_l_whole, PySem.W.mg_of X G a22, k22, F22.binds fun _ _ _ _ _ _ us hl => match us, hl with | [_, _], _ => rfl⟩
  have C_l_refused : Has l.prog w K mg base 6 "_law_refused" ["_law_n", "_law_one", "_law_other"] (sp_l_refused w K) := ⟨_, _, ok_l_refused F23 T C_least_leading, PySem.W.mg_of X G a23, k23, F23.binds fun _ _ _ _ _ _ us hl => match us, hl with | [_, _, _], _ => rfl⟩
  have C_l_right : Has l.prog w K mg base 7 "_law_right" ["_law_n", "_law_one", "_law_other"] (sp_l_right w K) := ⟨_, _, ok_l_right F24 T C_l_crossings C_l_prices_of C_l_same_pairs C_l_whole C_least_leading C_prices, PySem.W.mg_of X G a24, k24, F24.binds fun _ _ _ _ _ _ us hl => match us, hl with | [_, _, _], _ => rfl⟩
  exact ok_law F25 T C_l_mixed C_l_refused C_l_right C_l_sized C_l_wheel
theorem walk {l : PySem.W.OpenLaw} {q : Program} {loose : List Str} {XP : (Str → Option Value) → Heap → Prop} {YP : World → Heap → Prop} {d : DefRec} {K : Params → PySem.W.Frag} (hn : l.most = some 63) (hdf : d.params.defaults = [])
    (hY : ∀ (w : World) (h : Heap), YP w h → (K w.params).In h)
    (F : ∀ (w : World) (mg : Str → Option Value) (fa : Addr) (h : Heap), (K w.params).In h → h.Ns mainGlobals mg → mg d.name = some (.ref fa) →
      ∃ fd : FuncData, (∀ (s : Shared) (u : Value), BindsTo s fd ⟨[u], []⟩ [("_law_script", u)]) ∧ ∀ base : Heap, (K w.params).In base → base.Ns mainGlobals mg → FnOk l.prog w (K w.params) mg base CX0 8 fa fd ["_law_script"] (sp_law w (K w.params))) :
    PySem.W.WalkO q loose XP YP l.row.toRowW d [] (fun f vs => PySem.call f vs) :=
  L2.walk_of (n := 63) (k := 8) (x := "_law_script") (CX := fun _ => CX0) (sp := fun w => sp_law w (K w.params)) hn (by decide) hdf ⟨rfl, by decide, by decide⟩ hY F (fun _ _ a ns hl _ hS => ⟨a, ns, rfl, hS, hl, fun _ => rfl⟩) fun _ _ _ _ _ z => z
end My
open PySem PySem.W PyProof.Rows
set_option maxRecDepth 100000 in
set_option maxHeartbeats 0 in
theorem PySem.Challenge.cw_tonemirror_k34_least_holds : PySem.Challenge.rw_tonemirror_k34_least.Holds := by
  w_on; o_law; k_head; (case hw => w_witness2)
  k_fill
  refine My.walk (l := PySem.Challenge.rw_tonemirror_k34_least) rfl rfl (fun w h Y => PySem.W.kIn_of Y) ?F
  case F =>
    intro w mg fa h KX G hmg
    refine' My.all_mk KX G hmg ?a1 ?l1 ?c1 ?k1 ?a2 ?l2 ?c2 ?k2 ?a3 ?l3 ?c3 ?k3 ?a4 ?l4 ?c4 ?k4 ?a5 ?l5 ?c5 ?k5 ?a6 ?l6 ?c6 ?k6 ?a7 ?l7 ?c7 ?k7 ?a8 ?l8 ?c8 ?k8 ?a9 ?l9 ?c9 ?k9 ?a10 ?l10 ?c10 ?k10 ?a11 ?l11 ?c11 ?k11 ?a12 ?l12 ?c12 ?k12 ?a13 ?l13 ?c13 ?k13 ?a14 ?l14 ?c14 ?k14 ?a15 ?l15 ?c15 ?k15 ?a16 ?l16 ?c16 ?k16 ?a17 ?l17 ?c17 ?k17 ?a18 ?l18 ?c18 ?k18 ?a19 ?l19 ?c19 ?k19 ?a20 ?l20 ?c20 ?k20 ?a21 ?l21 ?c21 ?k21 ?a22 ?l22 ?c22 ?k22 ?a23 ?l23 ?c23 ?k23 ?a24 ?l24 ?c24 ?k24 ?a25 ?l25 ?c25 ?k25 ?z_len ?z_max ?z_min ?z_range ?z_isinstance ?z_int ?z_bool ?z_tuple ?z_sorted ?z_list ?z_sum ?z_abs ?z_zip ?z_dict ?z_ValueError ?g1NoLeading ?g2NoLeading ?g3NoLeading ?g4NoLeading ?g5NoLeading ?g6NoLeading ?g7NoLeading ?g8NoLeading ?g9NoLeading ?h1NoLeading ?h2NoLeading ?h3NoLeading ?h4NoLeading ?h5NoLeading
    (case a1 => k_is); (case l1 => k_is); (case c1 => k_is); (case k1 => k_is)
    (case a2 => k_is); (case l2 => k_is); (case c2 => k_is); (case k2 => k_is)
    (case a3 => k_is); (case l3 => k_is); (case c3 => k_is); (case k3 => k_is)
    (case a4 => k_is); (case l4 => k_is); (case c4 => k_is); (case k4 => k_is)
    (case a5 => k_is); (case l5 => k_is); (case c5 => k_is); (case k5 => k_is)
    (case a6 => k_is); (case l6 => k_is); (case c6 => k_is); (case k6 => k_is)
    (case a7 => k_is); (case l7 => k_is); (case c7 => k_is); (case k7 => k_is)
    (case a8 => k_is); (case l8 => k_is); (case c8 => k_is); (case k8 => k_is)
    (case a9 => k_is); (case l9 => k_is); (case c9 => k_is); (case k9 => k_is)
    (case a10 => k_is); (case l10 => k_is); (case c10 => k_is); (case k10 => k_is)
    (case a11 => k_is); (case l11 => k_is); (case c11 => k_is); (case k11 => k_is)
    (case a12 => k_is); (case l12 => k_is); (case c12 => k_is); (case k12 => k_is)
    (case a13 => k_is); (case l13 => k_is); (case c13 => k_is); (case k13 => k_is)
    (case a14 => k_is); (case l14 => k_is); (case c14 => k_is); (case k14 => k_is)
    (case a15 => k_is); (case l15 => k_is); (case c15 => k_is); (case k15 => k_is)
    (case a16 => k_is); (case l16 => k_is); (case c16 => k_is); (case k16 => k_is)
    (case a17 => k_is); (case l17 => k_is); (case c17 => k_is); (case k17 => k_is)
    (case a18 => k_is); (case l18 => k_is); (case c18 => k_is); (case k18 => k_is)
    (case a19 => k_is); (case l19 => k_is); (case c19 => k_is); (case k19 => k_is)
    (case a20 => k_is); (case l20 => k_is); (case c20 => k_is); (case k20 => k_is)
    (case a21 => k_is); (case l21 => k_is); (case c21 => k_is); (case k21 => k_is)
    (case a22 => k_is); (case l22 => k_is); (case c22 => k_is); (case k22 => k_is)
    (case a23 => k_is); (case l23 => k_is); (case c23 => k_is); (case k23 => k_is)
    (case a24 => k_is); (case l24 => k_is); (case c24 => k_is); (case k24 => k_is)
    (case a25 => k_is); (case l25 => k_is); (case c25 => k_is); (case k25 => k_is)
    (case z_len => k_is)
    (case z_max => k_is)
    (case z_min => k_is)
    (case z_range => k_is)
    (case z_isinstance => k_is)
    (case z_int => k_is)
    (case z_bool => k_is)
    (case z_tuple => k_is)
    (case z_sorted => k_is)
    (case z_list => k_is)
    (case z_sum => k_is)
    (case z_abs => k_is)
    (case z_zip => k_is)
    (case z_dict => k_is)
    (case z_ValueError => k_is)
    (case g1NoLeading => k_is)
    (case g2NoLeading => k_exc)
    (case g3NoLeading => kts_exm)
    (case g4NoLeading => k_is)
    (case g5NoLeading => k_is)
    (case g6NoLeading => k_is)
    (case g7NoLeading => k_is)
    (case g8NoLeading => k_is)
    (case g9NoLeading => k_is)
    (case h1NoLeading => k_is)
    (case h2NoLeading => k_is)
    (case h3NoLeading => kit_is)
    (case h4NoLeading => kit_is)
    (case h5NoLeading => kit_is)
