import PyProof.Rows.All
import Wide.All
import OpenK.AllK
import Wide.FinOn
import Lean
import PyProof.EqAt
import PyProof.EqKinds
import PyProof.TupleCall
import PyProof.Rows.SetFrom
import PyProof.ListRange
import PyProof.Rows.SortWalk
import PyProof.TupleOfStr
import PyProof.CollectStr
import KE.KRevIter
import PyProof.EnumMake
import PyProof.Rows.EnumRows
import PyProof.Rows.SumAny
import PyProof.Draws
import KE.KSortTup
import KE.KLcPair
import PyProof.Rows.TupDisplay
import PyProof.Rows.TupTab
import PyProof.ZipIter
import PyProof.CollectWalk
import PyProof.TupleIter
import PyProof.WalksMore
import PyProof.Rows.CallKwBuiltin
import PyProof.DictWalks
import PyProof.FString5
import PyProof.AttrMiss
import KE.KDictOf
import PyProof.DictItems
import PyProof.MeetsIn
import KE.KPairComp
import OpenK.KOwn
import KE.KTryMore
import PyProof.RulesAs
import KE.KIsAll
import PyProof.ExcArgsOwn
import KE.RegKTryMore
import KE.RegKIsAll
import PyProof.FString5
import PyProof.Rows.StrJoinMade
import PyProof.DictTable
import PyProof.FitsReplace
import PyProof.DictUpdate
import PyProof.NsDelKeeps
import PyProof.StrLawsRepr
import PyProof.DictFindH
import PyProof.TupleKey
import PyProof.MeetsDict
import PyProof.MeetsIn
import PyProof.DictRoadsH
import PyProof.Rows.TupDisplay
import PyProof.Rows.TupTab
import PyProof.ZipIter
import PyProof.Rows.ZipGen
import PyProof.Rows.SumAny
import PyProof.TupleIter
import PyProof.WalksMore
import PyProof.MinMaxWalk
import PyProof.Rows.StrKeys3
import PyProof.StrCalls2
import PyProof.StrLawsTight
import PyProof.StrLawsChain
import PyProof.StrLawsJoin
import PyProof.Rows.RuleN_abs
import PyProof.Rows.SeqGen
import PyProof.StrOps2
import PyProof.StrLawsRepr
import PyProof.StrLawsIn
import PyProof.MinMaxWalk
import PyProof.Rows.CallKwBuiltin
import PyProof.WalkInts
import PyProof.DictWalks
import PyProof.DictValues
import PyProof.NeKinds
import PySem.Challenge.RW_tonemirror_k53_whole_kept_alike
set_option Elab.async false
set_option linter.all false
set_option maxRecDepth 100000
namespace L2
open PySem PySem.Spec PyProof.Rows

abbrev Key := Sum Int Str
def keyIs : Key → Value → Bool
  | .inl k, v => Value.isInt k v
  | .inr x, v => Value.isStrOf x v
def keyH (w : World) : Key → Int
  | .inl k => hashInt k
  | .inr x => hashStr w x
theorem keyIs_shape : ∀ {k : Key} {v : Value}, keyIs k v = true → (∃ i t, k = Sum.inl i ∧ v = Value.int i t) ∨ (∃ x t, k = Sum.inr x ∧ v = Value.str x t)
  | .inl i, v, h => by
    obtain ⟨t, e⟩ := Value.isInt_shape (k := i) (v := v) h
    exact .inl ⟨i, t, rfl, e⟩
  | .inr x, v, h => by
    obtain ⟨t, e⟩ := Value.isStrOf_shape (x := x) (v := v) h
    exact .inr ⟨x, t, rfl, e⟩
theorem keyIs_int (i : Int) (t : Tok) : keyIs (.inl i) (.int i t) = true := by simp [keyIs, Value.isInt]
theorem keyIs_str (x : Str) (t : Tok) : keyIs (.inr x) (.str x t) = true := by simp [keyIs, Value.isStrOf]
theorem key_ll (a b : Int) : decide ((Sum.inl a : Key) = Sum.inl b) = (a == b) := by
  by_cases e : a = b
  · subst e; simp
  · have h : ¬ (Sum.inl a : Key) = Sum.inl b := fun q => e (Sum.inl.inj q)
    rw [decide_eq_false h]
    exact (beq_eq_false_iff_ne.mpr e).symm
theorem key_rr (a b : Str) : decide ((Sum.inr a : Key) = Sum.inr b) = decide (a = b) := by
  by_cases e : a = b
  · subst e; simp
  · have h : ¬ (Sum.inr a : Key) = Sum.inr b := fun q => e (Sum.inr.inj q)
    rw [decide_eq_false h, decide_eq_false e]
theorem key_lr (a : Int) (b : Str) : decide ((Sum.inl a : Key) = Sum.inr b) = false := decide_eq_false (fun q => nomatch q)
theorem key_rl (a : Str) (b : Int) : decide ((Sum.inr a : Key) = Sum.inl b) = false := decide_eq_false (fun q => nomatch q)

def mixKind (prog : Program) (w : World) : PySem.KeyKind prog w Key where
  is := keyIs
  hash := keyH w
  inj := fun v a b ha hb => by
    rcases keyIs_shape ha with ⟨i, t, rfl, rfl⟩ | ⟨x, t, rfl, rfl⟩
    · rcases keyIs_shape hb with ⟨j, u, rfl, e⟩ | ⟨y, u, rfl, e⟩
      · injection e with e1 _; rw [e1]
      · exact nomatch e
    · rcases keyIs_shape hb with ⟨j, u, rfl, e⟩ | ⟨y, u, rfl, e⟩
      · exact nomatch e
      · injection e with e1 _; rw [e1]
  byValue := fun k v h => by
    rcases keyIs_shape h with ⟨i, t, rfl, rfl⟩ | ⟨x, t, rfl, rfl⟩ <;> rfl
  pyHash := fun hv h => by
    rcases keyIs_shape hv with ⟨i, t, rfl, rfl⟩ | ⟨x, t, rfl, rfl⟩
    · exact wpAny_pyHash_int h
    · exact wpAny_pyHash_str h
  eqBool := fun hu hv h => by
    rcases keyIs_shape hu with ⟨i, t, rfl, rfl⟩ | ⟨x, t, rfl, rfl⟩
    · rcases keyIs_shape hv with ⟨j, u, rfl, rfl⟩ | ⟨y, u, rfl, rfl⟩
      · rw [key_ll] at h; exact wpAny_eqBool_int h
      · rw [key_lr] at h; exact SeqAt.EqAt.int_str i t y u _ _ _ _ h
    · rcases keyIs_shape hv with ⟨j, u, rfl, rfl⟩ | ⟨y, u, rfl, rfl⟩
      · rw [key_rl] at h; exact SeqAt.EqAt.str_int x t j u _ _ _ _ h
      · rw [key_rr] at h; exact wpAny_eqBool_str h
  «strs» := fun k x t v h => by
    rcases keyIs_shape h with ⟨i, u, rfl, e⟩ | ⟨y, u, rfl, e⟩
    · exact nomatch e
    · injection e with e1 _
      subst e1
      cases v <;> rfl

theorem mixKind_int (prog : Program) (w : World) (i : Int) (t : Tok) : (mixKind prog w).is (.inl i) (.int i t) = true := keyIs_int i t
theorem mixKind_str (prog : Program) (w : World) (x : Str) (t : Tok) : (mixKind prog w).is (.inr x) (.str x t) = true := keyIs_str x t
end L2

namespace L2
open PySem PySem.Spec PyProof.Rows

inductive V where
  | non | bl (b : Bool) | int (i : Int) | str (x : Str) | byt (b : Array UInt8) | flt (b : UInt64) | ref (a : Addr) | ty (n : String)
  deriving DecidableEq

def RelV : V → Value → Prop
  | .non, u => u = Value.none
  | .bl b, u => u = Value.bool b
  | .int i, u => ∃ t, u = Value.int i t
  | .str x, u => ∃ t, u = Value.str x t
  | .byt b, u => ∃ t, u = Value.bytes b t
  | .flt b, u => ∃ t, u = Value.float b t
  | .ref a, u => u = Value.ref a
  | .ty n, u => u = Value.type n

abbrev Vals : List V → List Value → Prop := Paired RelV
theorem Vals.length {xs : List V} {us : List Value} (r : Vals xs us) : xs.length = us.length := Paired.length r
theorem Vals.get : ∀ {xs : List V} {us : List Value} {i : Nat} {x : V}, Vals xs us → xs[i]? = some x → ∃ u, us[i]? = some u ∧ RelV x u
  | _, _, _, _, .nil, e => by simp at e
  | _, _, 0, _, .cons r _, e => by simp at e; subst e; exact ⟨_, rfl, r⟩
  | _, _, i + 1, x, .cons _ t, e => by
    obtain ⟨u, h1, h2⟩ := Vals.get (i := i) (x := x) t (by simpa using e)
    exact ⟨u, by simpa using h1, h2⟩
theorem Vals.append : ∀ {xs ys : List V} {us ws : List Value}, Vals xs us → Vals ys ws → Vals (xs ++ ys) (us ++ ws)
  | _, _, _, _, .nil, s => s
  | _, _, _, _, .cons r t, s => .cons r (Vals.append t s)
theorem Vals.take : ∀ {xs : List V} {us : List Value} (n : Nat), Vals xs us → Vals (xs.take n) (us.take n)
  | _, _, 0, _ => .nil
  | _, _, _ + 1, .nil => .nil
  | _, _, n + 1, .cons r t => .cons r (Vals.take n t)
theorem Vals.drop : ∀ {xs : List V} {us : List Value} (n : Nat), Vals xs us → Vals (xs.drop n) (us.drop n)
  | _, _, 0, r => r
  | _, _, _ + 1, .nil => .nil
  | _, _, n + 1, .cons _ t => Vals.drop n t
def RelO : Option V → Option Value → Prop
  | some v, some u => RelV v u
  | none, none => True
  | _, _ => False
def KV {κ : Type} : List (κ × V) → List (κ × Value) → Prop := Paired fun (p : κ × V) (q : κ × Value) => p.1 = q.1 ∧ RelV p.2 q.2

def kV : Key → V
  | .inl i => .int i
  | .inr x => .str x

inductive HO where
  /-- a list -/
  | lst (xs : List V)
  /-- a tuple (never changes) -/
  | tup (xs : List V)
  /-- a dict whose keys are ints and texts; one whose keys are tuples of ints and texts (the empty one is both) -/
  | dK (kvs : List (Key × V)) | dT (kvs : List (List Key × V))
  /-- a set of ints: its members, its size -/
  | set (S : Int → Bool) (n : Nat)
  /-- an instance of the class at C, its dict at dx, its attributes -/
  | ins (C dx : Addr) (fs : List (Str × V))
  /-- the dict of the instance at x -/
  | own (x : Addr)
  /-- the dict of an exception -/
  | xd (fs : List (Str × V))
  /-- a bound method, f of x -/
  | met (f x : Addr)
  /-- a range object lo, lo + 1, .. below hi -/
  | rng (lo hi : Int)
  /-- a thing that is known to the object (the script; a dict while a loop walks it): read, never written while it is so -/
  | frz (o : Obj) (u : HO)
  /-- a code object's table -/
  | tbl (ps : Array Value)
  /-- any other thing, by what is true of its one object (a def of one's own: SetO a S n := HO.ext fun h => ..) -/
  | ext (φ : Heap → Prop)

abbrev Hp := Addr → Option HO
def upd (H : Hp) (a : Addr) (o : HO) : Hp := fun b => if b = a then some o else H b
theorem upd_same {H : Hp} {a : Addr} {o : HO} : upd H a o a = some o := by unfold upd; rw [if_pos rfl]
theorem upd_ne {H : Hp} {a b : Addr} {o : HO} (h : b ≠ a) : upd H a o b = H b := by unfold upd; rw [if_neg h]
theorem ne_of {H : Hp} {a b : Addr} {o u : HO} (h : H a = some o) (h' : H b = some u) (d : o ≠ u) : a ≠ b := by
  intro e; subst e; rw [h] at h'; exact d (Option.some.inj h')
theorem ne_of_none {H : Hp} {a b : Addr} {o : HO} (h : H a = some o) (h' : H b = none) : a ≠ b := by
  intro e; subst e; rw [h] at h'; cases h'

section
variable (P : Program) (w : World)
def ObjOk (H : Hp) (h : Heap) (a : Addr) : HO → Prop
  | .lst xs => xs.length ≤ sizeLine ∧ ∃ (its : List Value) (n : Nat), Vals xs its ∧ h.get? a = some { cls := .type "list", data := .seq its.toArray n }
  | .tup xs => xs.length ≤ sizeLine ∧ ∃ its : List Value, Vals xs its ∧ IsTup h a its.toArray
  | .dK kvs => kvs.length ≤ sizeLine ∧ (a == sysModules) = false ∧ ∃ vs, KV kvs vs ∧ h.DictOf (mixKind P w) a vs
  | .dT kvs => kvs.length ≤ sizeLine ∧ (a == sysModules) = false ∧ ∃ xs : List (List Key × Addr × Value),
      Paired (fun (p : List Key × V) (q : List Key × Addr × Value) => p.1 = q.1 ∧ H q.2.1 = some (.tup (p.1.map kV)) ∧ RelV p.2 q.2.2) kvs xs ∧
      ∃ o es ep, h.get? a = some o ∧ o.ExactDict ∧ o.data = .dict es ep ∧ es.toList = xs.map (entryOfKey (tupleKind (mixKind P w))) ∧ (xs.map (·.1)).Nodup
  | .set S n => h.SetOf (intKind P w) a S n
  | .ins C dx fs => H dx = some (.own a) ∧ fs.length ≤ 1000 ∧ dx ≠ a ∧ h.get? a = some (PySem.W.instObj C dx) ∧
      ∃ mA, h.Ns1 dx mA ∧ (∀ f, RelO (fs.lookup f) (mA f)) ∧ PySem.Within mA (fs.map (·.1))
  | .own _ => ∃ o, h.get? a = some o
  | .xd fs => ∃ mA, h.Ns1 a mA ∧ ∀ f, RelO (fs.lookup f) (mA f)
  | .rng lo hi => ∃ t u v, h.get? a = some { cls := .type "range", data := .fields #[.int lo t, .int hi u, .int 1 v] }
  | .frz o u => h.get? a = some o ∧ ObjOk H h a u
  | .tbl ps => h.get? a = some { cls := .none, data := .fields ps }
  | .met f x => h.get? a = some (PySem.W.methodObj (.ref f) (.ref x))
  | .ext φ => φ h ∧ (∃ o, h.get? a = some o) ∧ ∀ h1 h2 : Heap, φ h1 → (∀ o, h1.get? a = some o → h2.get? a = some o) → φ h2
def HOk (H : Hp) (h : Heap) : Prop := ∀ a o, H a = some o → ObjOk P w H h a o
end

section
variable {P : Program} {w : World} {H H' : Hp} {h h' : Heap} {a : Addr} {o : HO}
theorem ObjOk.lt (x : ObjOk P w H h a o) : a < h.objs.size := by
  cases o with
  | lst xs => obtain ⟨_, _, _, _, e⟩ := x; exact Heap.lt_size e
  | tup xs => obtain ⟨_, _, _, p⟩ := x; exact p.lt
  | dK kvs => obtain ⟨_, _, _, _, o, _, _, e, _⟩ := x; exact Heap.lt_size e
  | dT kvs => obtain ⟨_, _, _, _, o, _, _, e, _⟩ := x; exact Heap.lt_size e
  | set S n => obtain ⟨o, _, _, _, e, _⟩ := x; exact Heap.lt_size e
  | ins C dx fs => obtain ⟨_, _, _, e, _⟩ := x; exact Heap.lt_size e
  | own y => obtain ⟨_, e⟩ := x; exact Heap.lt_size e
  | xd fs => obtain ⟨_, ⟨_, _, _, e, _⟩, _⟩ := x; exact Heap.lt_size e
  | rng lo hi => obtain ⟨_, _, _, e⟩ := x; exact Heap.lt_size e
  | frz ob u => obtain ⟨e, _⟩ := x; exact Heap.lt_size e
  | tbl ps => exact Heap.lt_size (show h.get? a = some _ from x)
  | met f y => exact Heap.lt_size (show h.get? a = some _ from x)
  | ext φ => obtain ⟨_, ⟨_, e⟩, _⟩ := x; exact Heap.lt_size e
theorem Paired.mapP {α β : Type} {F G : α → β → Prop} : ∀ {l₁ : List α} {l₂ : List β}, Paired F l₁ l₂ → (∀ a b, F a b → G a b) → Paired G l₁ l₂
  | _, _, .nil, _ => .nil
  | _, _, .cons r t, f => .cons (f _ _ r) (Paired.mapP t f)
theorem ObjOk.stay (x : ObjOk P w H h a o) (k : ∀ b u, (b = a ∨ H b = some (.own a)) → h.get? b = some u → h'.get? b = some u)
    (ho : ∀ b, H b = some (.own a) → H' b = some (.own a)) (ht : ∀ b xs, H b = some (.tup xs) → H' b = some (.tup xs)) : ObjOk P w H' h' a o := by
  induction o with
  | lst xs => obtain ⟨z, its, n, r, e⟩ := x; exact ⟨z, its, n, r, k _ _ (.inl rfl) e⟩
  | tup xs => obtain ⟨z, its, r, ob, e, c⟩ := x; exact ⟨z, its, r, ob, k _ _ (.inl rfl) e, c⟩
  | dK kvs => obtain ⟨z, y, vs, r, ob, es, ep, e, c⟩ := x; exact ⟨z, y, vs, r, ob, es, ep, k _ _ (.inl rfl) e, c⟩
  | dT kvs =>
    obtain ⟨z, y, xs, r, ob, es, ep, e, c⟩ := x
    exact ⟨z, y, xs, Paired.mapP r fun p q z => ⟨z.1, ht _ _ z.2.1, z.2.2⟩, ob, es, ep, k _ _ (.inl rfl) e, c⟩
  | set S n => obtain ⟨ob, es, ep, t, e, c⟩ := x; exact ⟨ob, es, ep, t, k _ _ (.inl rfl) e, c⟩
  | ins C dx fs =>
    obtain ⟨d, z, ne, e, mA, ⟨od, es, ep, e2, c⟩, r⟩ := x
    exact ⟨ho _ d, z, ne, k _ _ (.inl rfl) e, mA, ⟨od, es, ep, k _ _ (.inr d) e2, c⟩, r⟩
  | own y => obtain ⟨ob, e⟩ := x; exact ⟨ob, k _ _ (.inl rfl) e⟩
  | xd fs => obtain ⟨mA, ⟨od, es, ep, e, c⟩, r⟩ := x; exact ⟨mA, ⟨od, es, ep, k _ _ (.inl rfl) e, c⟩, r⟩
  | rng lo hi => obtain ⟨t, u, v, e⟩ := x; exact ⟨t, u, v, k _ _ (.inl rfl) e⟩
  | frz ob u ih => obtain ⟨e, q⟩ := x; exact ⟨k _ _ (.inl rfl) e, ih q⟩
  | tbl ps =>
    have e : h.get? a = some { cls := .none, data := .fields ps } := x
    show h'.get? a = some { cls := .none, data := .fields ps }
    exact k a _ (.inl rfl) e
  | met f y =>
    have e : h.get? a = some (PySem.W.methodObj (.ref f) (.ref y)) := x
    show h'.get? a = some (PySem.W.methodObj (.ref f) (.ref y))
    exact k a _ (.inl rfl) e
  | ext φ => obtain ⟨p, ⟨o, e⟩, st⟩ := x; exact ⟨st _ _ p fun o q => k _ _ (.inl rfl) q, ⟨o, k _ _ (.inl rfl) e⟩, st⟩
theorem HOk.lt (x : HOk P w H h) (e : H a = some o) : a < h.objs.size := (x a o e).lt
theorem HOk.fresh (x : HOk P w H h) (e : h.objs.size ≤ a) : H a = none := by
  cases q : H a with
  | none => rfl
  | some u => exact absurd (Nat.lt_of_lt_of_le (x.lt q) e) (Nat.lt_irrefl _)
theorem HOk.kept (x : HOk P w H h) (k : ∀ b u, h.get? b = some u → h'.get? b = some u) : HOk P w H h' := fun a o e =>
  (x a o e).stay (fun b u _ q => k b u q) (fun _ q => q) fun _ _ q => q
theorem HOk.laid (x : HOk P w H h) (k : ∀ b u, h.get? b = some u → h'.get? b = some u) (hp : h.objs.size ≤ a) (new : ObjOk P w (upd H a o) h' a o) : HOk P w (upd H a o) h' := fun b u e => by
  have hn := x.fresh hp
  by_cases hb : b = a
  · subst hb; rw [upd_same] at e; cases e; exact new
  · rw [upd_ne hb] at e
    exact (x b u e).stay (fun c v _ q => k c v q) (fun c q => by rw [upd_ne (ne_of_none q hn)]; exact q) fun c xs q => by rw [upd_ne (ne_of_none q hn)]; exact q
end

def Rd (H : Hp) (a : Addr) (u : HO) : Prop := H a = some u ∨ ∃ o, H a = some (.frz o u)
theorem Rd.ok {P : Program} {w : World} {H : Hp} {h : Heap} {a : Addr} {u : HO} (r : Rd H a u) (x : HOk P w H h) : ObjOk P w H h a u := by
  rcases r with r | ⟨o, r⟩
  · exact x a u r
  · obtain ⟨_, q⟩ := x a _ r
    exact q
def Mut : Option HO → Prop
  | some (.lst _) => True
  | some (.dK _) => True
  | some (.dT _) => True
  | some (.set _ _) => True
  | some (.ins _ _ _) => True
  | some (.ext _) => True
  | _ => False
section
variable {P : Program} {w : World} {H : Hp} {h h' : Heap} {x e : Addr} {o' : HO}
theorem HOk.write (ok : HOk P w H h) (mu : Mut (H x)) (he : e = x ∨ H e = some (.own x)) (k : ∀ b u, b ≠ e → h.get? b = some u → h'.get? b = some u) (heo : ∃ u, h'.get? e = some u)
    (new : ObjOk P w (upd H x o') h' x o') : HOk P w (upd H x o') h' := fun b u q => by
  have nown : ∀ c y, H c = some (.own y) → c ≠ x := fun c y r z => by subst z; rw [r] at mu; exact mu
  have ntup : ∀ c xs, H c = some (.tup xs) → c ≠ x := fun c xs r z => by subst z; rw [r] at mu; exact mu
  by_cases hb : b = x
  · subst hb; rw [upd_same] at q; cases q; exact new
  · rw [upd_ne hb] at q
    by_cases hbe : b = e
    · have q' : H b = some (.own x) := by
        rcases he with z | z
        · exact absurd (hbe.trans z) hb
        · rw [hbe]; exact z
      rw [q] at q'; cases q'
      obtain ⟨v, hv⟩ := heo
      exact ⟨v, by rw [hbe]; exact hv⟩
    · refine (ok b u q).stay (fun c v hc r => k c v ?_ r) (fun c r => by rw [upd_ne (nown c b r)]; exact r) fun c xs r => by rw [upd_ne (ntup c xs r)]; exact r
      rcases hc with rfl | hc
      · exact hbe
      · rintro rfl
        rcases he with z | z
        · exact nown c b hc z
        · rw [hc] at z; cases z; exact hb rfl
end

structure Un (fs ex : List Addr) (H H' : Hp) (h h' : Heap) : Prop where
  keep : ∀ b o, h.get? b = some o → H b = none → b ∉ fs → b ∉ ex → h'.get? b = some o
  slot : ∀ b o, h.get? b = some o → H b = none → b ∈ fs → b ∉ ex → ∃ sl, h'.get? b = some { o with slots := sl }
  free : ∀ b o, h.get? b = some o → H b = none → b ∉ ex → H' b = none
  there : ∀ b o, h.get? b = some o → b ∉ ex → ∃ o', h'.get? b = some o'
  tups : ∀ b xs, H b = some (.tup xs) → H' b = some (.tup xs)
  frzs : ∀ b o u, H b = some (.frz o u) → H' b = some (.frz o u)
  tbls : ∀ b ps, H b = some (.tbl ps) → ∃ more, H' b = some (.tbl (ps ++ more))
section
variable {fs fs' ex ex' : List Addr} {H H1 H2 : Hp} {h h1 h2 h' : Heap} {a x e : Addr} {o : HO}
theorem Un.any (u : Un fs ex H H1 h h1) {b : Addr} {ob : Obj} (q : h.get? b = some ob) (n : H b = none) (hx : b ∉ ex) : ∃ sl, h1.get? b = some { ob with slots := sl } := by
  by_cases hb : b ∈ fs
  · exact u.slot b ob q n hb hx
  · exact ⟨ob.slots, u.keep b ob q n hb hx⟩
theorem Un.kept (k : ∀ b u, h.get? b = some u → h'.get? b = some u) : Un fs ex H H h h' :=
  ⟨fun b ob q _ _ _ => k b ob q, fun b ob q _ _ _ => ⟨ob.slots, k b ob q⟩, fun _ _ _ n _ => n, fun b ob q _ => ⟨ob, k b ob q⟩, fun _ _ q => q, fun _ _ _ q => q, fun _ ps q => ⟨#[], by rw [q]; simp⟩⟩
theorem Un.refl : Un fs ex H H h h := Un.kept fun _ _ q => q
theorem Un.laid (k : ∀ b u, h.get? b = some u → h'.get? b = some u) (hp : h.objs.size ≤ a) (hn : H a = none) : Un fs ex H (upd H a o) h h' where
  keep := fun b u q _ _ _ => k b u q
  slot := fun b u q _ _ _ => ⟨u.slots, k b u q⟩
  free := fun b u q n _ => by rw [upd_ne (Nat.ne_of_lt (Nat.lt_of_lt_of_le (Heap.lt_size q) hp))]; exact n
  there := fun b u q _ => ⟨u, k b u q⟩
  tups := fun b xs q => by rw [upd_ne (ne_of_none q hn)]; exact q
  frzs := fun b u xs q => by rw [upd_ne (ne_of_none q hn)]; exact q
  tbls := fun b ps q => ⟨#[], by rw [upd_ne (ne_of_none q hn), q]; simp⟩
theorem Un.write (mu : Mut (H x)) (he : e = x ∨ H e = some (.own x)) (k : ∀ b u, b ≠ e → h.get? b = some u → h'.get? b = some u) (heo : ∃ u, h'.get? e = some u) : Un fs ex H (upd H x o) h h' := by
  have hx : ∀ b, H b = none → b ≠ x := fun b n z => by subst z; rw [n] at mu; exact mu
  have hb : ∀ b, H b = none → b ≠ e := fun b n z => by
    subst z
    rcases he with r | r
    · exact hx b n r
    · rw [n] at r; cases r
  have hm : ∀ b u, H b = some u → ¬ Mut (some u) → b ≠ x := fun b u q nm z => by subst z; rw [q] at mu; exact nm mu
  refine ⟨fun b u q n _ _ => k b u (hb b n) q, fun b u q n _ _ => ⟨u.slots, k b u (hb b n) q⟩, fun b u q n _ => by rw [upd_ne (hx b n)]; exact n, fun b u q _ => ?_,
    fun b xs q => by rw [upd_ne (hm b _ q fun z => z)]; exact q, fun b u xs q => by rw [upd_ne (hm b _ q fun z => z)]; exact q, fun b ps q => ⟨#[], by rw [upd_ne (hm b _ q fun z => z), q]; simp⟩⟩
  by_cases hbe : b = e
  · subst hbe; exact heo
  · exact ⟨u, k b u hbe q⟩
end

def trk (h : Heap) (H : Hp) : List Addr := (List.range h.objs.size).filter fun a => (H a).isSome
def hidT (h : Heap) (H : Hp) : Heap := PySem.W.hideAll h (trk h H)
theorem hidT_size (h : Heap) (H : Hp) : (hidT h H).objs.size = h.objs.size := PySem.W.hideAll_size _ _
theorem hidT_get {h : Heap} {H : Hp} {b : Addr} {o : Obj} (e : h.get? b = some o) (n : H b = none) : (hidT h H).get? b = some o :=
  PySem.W.hideAll_get _ e fun hm => by
    have q : (H b).isSome = true := (List.mem_filter.mp hm).2
    rw [n] at q; simp at q
theorem of_hidT {h : Heap} {H : Hp} {b : Addr} {o : Obj} (e : (hidT h H).get? b = some o) : h.get? b = some o ∧ H b = none := by
  have e' : h.get? b = some o := PySem.W.of_hideAll (trk h H) e
  refine ⟨e', ?_⟩
  cases q : H b with
  | none => rfl
  | some x =>
    have hm : b ∈ trk h H := List.mem_filter.mpr ⟨List.mem_range.mpr (Heap.lt_size e'), by simp [q]⟩
    have z : (hidT h H).get? b = none := PySem.W.hideAll_none (trk h H) hm
    rw [z] at e; cases e

end L2

namespace L2
open PySem PySem.Spec PyProof.Rows

structure Mod (K : PySem.W.Frag) (mg : Str → Option Value) (base : Heap) : Prop where
  kin : K.In base
  glob : base.Ns mainGlobals mg
  blt : ∃ mb, base.Ns builtinsNs mb ∧ ∀ x : Str, x ≠ "__name__" → mb x = bootBuiltins x
  nolimit : base.NoLimit

structure Cx where
  prog : Program
  w : World
  K : PySem.W.Frag
  mg : Str → Option Value
  base : Heap
  A : Around
  N : List Str
  s₀ : Shared
  H₀ : Hp
  env : Env
  outer : List Env
  stack : List Env
  ex : List Addr
  fn : Str → Bool
  calm : Bool
  pn : List (Addr × Obj)
  xe : Value → Shared → Prop
def frs (l : List Env) : List Addr := l.filterMap (·.frame)
abbrev Cx.fs (X : Cx) : List Addr := frs X.outer

def Vis (sc : Scope) (x : Str) : Prop := sc.names.lookup x = some .local ∨ sc.names.lookup x = some .cell ∨ sc.names.lookup x = some .free
def Loc (sc : Scope) (x : Str) : Prop := sc.names.lookup x = some .local ∨ sc.names.lookup x = some .cell
def Look (env : Env) (h : Heap) (m : Str → Option Value) (x : Str) (u : Value) : Prop :=
  (env.kindOf x = some .local ∧ m x = some u) ∨ ((env.kindOf x = some .cell ∨ env.kindOf x = some .free) ∧ ∃ c, env.cells.lookup x = some c ∧ h.IsCell c (some u))

structure Cx.Ok (X : Cx) : Prop where
  mod : Mod X.K X.mg X.base
  kind : X.env.scope.kind = .function
  glob : X.env.globals = mainGlobals
  blt : X.env.builtins = builtinsNs
  above : X.s₀.heap.objs.size ≤ X.env.locals
  inj : ∀ x y c, X.env.cells.lookup x = some c → X.env.cells.lookup y = some c → x = y
  has : ∀ x, (X.env.kindOf x = some .cell ∨ X.env.kindOf x = some .free) → ∃ c, X.env.cells.lookup x = some c
  cab : ∀ x c, X.fn x = true → X.env.cells.lookup x = some c → X.s₀.heap.objs.size ≤ c
  hd : X.calm = true → X.A.handled = none
  frames : X.A.frames = some X.stack
  stk : X.stack = X.outer ∨ (X.stack = X.env :: X.outer ∧ X.env.frame = some X.env.locals)
  exf : ∀ b ∈ X.ex, b ≠ X.env.locals ∧ ∀ x c, X.env.cells.lookup x = some c → c ≠ b
  bs : ∀ b o, X.base.get? b = some o → X.s₀.heap.get? b = some o ∧ X.H₀ b = none
  bsz : X.base.objs.size ≤ X.s₀.heap.objs.size
  noex : ∀ b o, X.base.get? b = some o → b ∉ X.ex
  exfs : ∀ b ∈ X.ex, b ∉ X.fs
  funs : X.s₀.heap.FunFrames X.base X.outer
  frf : ∀ b ∈ X.fs, X.H₀ b = none

structure Inv (X : Cx) (pins : List (Addr × Obj)) (σ : List (Option V)) (H : Hp) (s : Shared) : Prop where
  ok : X.Ok
  os : s.os = X.s₀.os
  bare : AllBare s.gens
  base : Un X.fs X.ex X.H₀ H X.s₀.heap s.heap
  loc : ∃ m, s.heap.Ns X.env.locals m ∧ ∀ (i : Nat) (x : Str) (v : V), X.N[i]? = some x → σ[i]? = some (some v) → Vis X.env.scope x → ∃ u, RelV v u ∧ Look X.env s.heap m x u
  cell : ∀ x c, X.env.cells.lookup x = some c → ∃ v, s.heap.IsCell c v
  free : H X.env.locals = none
  freeC : ∀ x c, X.env.cells.lookup x = some c → H c = none
  pin : ∀ p ∈ X.pn ++ pins, s.heap.get? p.1 = some p.2 ∧ H p.1 = none ∧ p.1 ≠ X.env.locals ∧ p.1 ∉ X.fs ∧ ∀ v, p.2.data ≠ .cell v
  hok : HOk X.prog X.w H s.heap
  len : σ.length = X.N.length

section
variable {X : Cx} {pins : List (Addr × Obj)} {σ : List (Option V)} {H H' : Hp} {s : Shared} {h' : Heap}

theorem Cx.Ok.nofr (ok : X.Ok) {b : Addr} {o : Obj} (e : X.base.get? b = some o) : b ∉ X.fs := fun hb => by
  have := (ok.funs.mem hb).1
  rw [e] at this; cases this
theorem Inv.bs (I : Inv X pins σ H s) : ∀ b o, X.base.get? b = some o → s.heap.get? b = some o ∧ H b = none := fun b o e =>
  ⟨I.base.keep b o (I.ok.bs b o e).1 (I.ok.bs b o e).2 (I.ok.nofr e) (I.ok.noex b o e), I.base.free b o (I.ok.bs b o e).1 (I.ok.bs b o e).2 (I.ok.noex b o e)⟩
theorem Inv.bk (I : Inv X pins σ H s) : ∀ b o, X.base.get? b = some o → s.heap.get? b = some o := fun b o e => (I.bs b o e).1
theorem Inv.mod (I : Inv X pins σ H s) : Mod X.K X.mg X.base := I.ok.mod
theorem Inv.kIn (I : Inv X pins σ H s) : X.K.In s.heap := I.ok.mod.kin.keeps I.bk
theorem Inv.lt (I : Inv X pins σ H s) : X.env.locals < s.heap.objs.size := let ⟨_, hn, _⟩ := I.loc; hn.lt
theorem Inv.sz (I : Inv X pins σ H s) : X.s₀.heap.objs.size ≤ s.heap.objs.size := Nat.le_trans I.ok.above (Nat.le_of_lt I.lt)
theorem Inv.nofs (I : Inv X pins σ H s) {a : Addr} (h : s.heap.objs.size ≤ a) : a ∉ X.fs := fun hb => by
  obtain ⟨_, o, ho, _⟩ := I.ok.funs.mem hb
  exact absurd (Nat.lt_of_lt_of_le (Heap.lt_size ho) (Nat.le_trans I.sz h)) (Nat.lt_irrefl _)
theorem Inv.cne (I : Inv X pins σ H s) : ∀ x c, X.env.cells.lookup x = some c → c ≠ X.env.locals := fun x c e z => by
  obtain ⟨v, o, ho, hd⟩ := I.cell x c e
  obtain ⟨m, ⟨o', es, ep, ho', hd', _⟩, _⟩ := I.loc
  rw [z, ho'] at ho; cases ho; rw [hd'] at hd; cases hd
theorem Inv.funs (I : Inv X pins σ H s) : s.heap.FunFrames X.base X.outer := by
  have all : ∀ (l : List Env), (∀ b ∈ frs l, b ∈ X.fs) → X.s₀.heap.FunFrames X.base l → s.heap.FunFrames X.base l := by
    intro l
    induction l with
    | nil => intro _ _; trivial
    | cons env r ih =>
      intro hs hl
      obtain ⟨hk, ⟨L, o, hf, hn, ho, hd⟩, hr⟩ := hl
      have hL : L ∈ X.fs := hs L (by unfold frs; rw [List.filterMap_cons, hf]; exact List.mem_cons_self)
      obtain ⟨sl, e⟩ := I.base.slot L o ho (I.ok.frf L hL) hL fun z => I.ok.exfs L z hL
      exact ⟨hk, ⟨L, _, hf, hn, e, hd⟩, ih (fun b hb => hs b (by unfold frs; rw [List.filterMap_cons, hf]; exact List.mem_cons_of_mem _ hb)) hr⟩
  exact all X.outer (fun _ hb => hb) I.ok.funs

theorem Inv.stack (I : Inv X pins σ H s) : s.heap.FunFrames X.base X.stack := by
  rcases I.ok.stk with e | ⟨e, hf⟩
  · rw [e]; exact I.funs
  · rw [e]
    obtain ⟨m, hn, _⟩ := I.loc
    refine .cons (by rw [I.ok.kind]; decide) hf hn ?_ I.funs
    exact Heap.get?_none_of_le (Nat.le_trans I.ok.bsz I.ok.above)
theorem Inv.stkSub (I : Inv X pins σ H s) : ∀ b ∈ frs X.stack, b ∈ X.env.locals :: X.fs := fun b hb => by
  rcases I.ok.stk with e | ⟨e, hf⟩
  · rw [e] at hb; exact List.mem_cons_of_mem _ hb
  · rw [e] at hb
    unfold frs at hb
    rw [List.filterMap_cons, hf] at hb
    exact hb
theorem Inv.stkFree (I : Inv X pins σ H s) : ∀ b ∈ frs X.stack, H b = none := fun b hb => by
  rcases List.mem_cons.mp (I.stkSub b hb) with e | hb
  · rw [e]; exact I.free
  · obtain ⟨_, o, ho, _⟩ := I.ok.funs.mem hb
    exact I.base.free b o ho (I.ok.frf b hb) fun z => I.ok.exfs b z hb

theorem Inv.step {g' : Array GenState} {t' : Nat} {d' : Drawn} {ch : List Addr} (I : Inv X pins σ H s)
    (hch : ∀ b ∈ ch, (b ∈ X.ex ∨ X.s₀.heap.objs.size ≤ b) ∧ b ≠ X.env.locals ∧ (∀ x c, X.env.cells.lookup x = some c → c ≠ b) ∧ ∀ p ∈ X.pn ++ pins, p.1 ≠ b)
    (keep : ∀ b o, b ≠ X.env.locals → b ∉ X.fs → b ∉ ch → s.heap.get? b = some o → H b = none → h'.get? b = some o)
    (slot : ∀ b o, b ≠ X.env.locals → b ∈ X.fs → b ∉ ch → s.heap.get? b = some o → H b = none → ∃ sl, h'.get? b = some { o with slots := sl }) (free : ∀ b o, b ∉ ch → s.heap.get? b = some o → H b = none → H' b = none)
    (there : ∀ b o, b ∉ ch → s.heap.get? b = some o → ∃ o', h'.get? b = some o')
    (tups : ∀ b xs, H b = some (.tup xs) → H' b = some (.tup xs)) (frzs : ∀ b o u, H b = some (.frz o u) → H' b = some (.frz o u)) (tbls : ∀ b ps, H b = some (.tbl ps) → ∃ more, H' b = some (.tbl (ps ++ more)))
    (ns : ∀ m, s.heap.Ns X.env.locals m → h'.Ns X.env.locals m) (hok : HOk X.prog X.w H' h') (hg : AllBare g') :
    Inv X pins σ H' { s with heap := h', gens := g', drawn := d', toks := t' } := by
  have neL : ∀ b o, X.s₀.heap.get? b = some o → b ≠ X.env.locals := fun b o e => Nat.ne_of_lt (Nat.lt_of_lt_of_le (Heap.lt_size e) I.ok.above)
  have neC : ∀ b o, X.s₀.heap.get? b = some o → b ∉ X.ex → b ∉ ch := fun b o e hx hb => by
    rcases (hch b hb).1 with z | z
    · exact hx z
    · exact absurd (Nat.lt_of_lt_of_le (Heap.lt_size e) z) (Nat.lt_irrefl _)
  have cellK : ∀ x c, X.env.cells.lookup x = some c → ∀ v, s.heap.IsCell c v → h'.IsCell c v := fun x c e v ⟨o, ho, hd⟩ => by
    have nch : c ∉ ch := fun z => (hch c z).2.2.1 x c e rfl
    by_cases hc : c ∈ X.fs
    · obtain ⟨sl, q⟩ := slot c o (I.cne x c e) hc nch ho (I.freeC x c e)
      exact ⟨_, q, hd⟩
    · exact ⟨o, keep c o (I.cne x c e) hc nch ho (I.freeC x c e), hd⟩
  refine ⟨I.ok, I.os, hg, ⟨fun b o e n hb hx => ?_, fun b o e n hb hx => ?_, fun b o e n hx => ?_, fun b o e hx => ?_, fun b xs e => tups b xs (I.base.tups b xs e), fun b o xs e => frzs b o xs (I.base.frzs b o xs e), fun b ps e => ?_⟩, ?_, fun x c e => ?_, ?_, fun x c e => ?_, fun p hp => ?_, hok, I.len⟩
  · exact keep b o (neL b o e) hb (neC b o e hx) (I.base.keep b o e n hb hx) (I.base.free b o e n hx)
  · obtain ⟨sl, e1⟩ := I.base.slot b o e n hb hx
    obtain ⟨sl', e2⟩ := slot b _ (neL b o e) hb (neC b o e hx) e1 (I.base.free b o e n hx)
    exact ⟨sl', e2⟩
  · obtain ⟨o', e1⟩ := I.base.there b o e hx
    exact free b o' (neC b o e hx) e1 (I.base.free b o e n hx)
  · obtain ⟨o', e1⟩ := I.base.there b o e hx
    exact there b o' (neC b o e hx) e1
  · obtain ⟨m1, e1⟩ := I.base.tbls b ps e
    obtain ⟨m2, e2⟩ := tbls b _ e1
    exact ⟨m1 ++ m2, by rw [e2, Array.append_assoc]⟩
  · obtain ⟨m, hn, hl⟩ := I.loc
    refine ⟨m, ns m hn, fun i x v e1 e2 e3 => ?_⟩
    obtain ⟨u, r, l⟩ := hl i x v e1 e2 e3
    refine ⟨u, r, ?_⟩
    rcases l with l | ⟨k, c, e, z⟩
    · exact .inl l
    · exact .inr ⟨k, c, e, cellK x c e _ z⟩
  · obtain ⟨v, z⟩ := I.cell x c e
    exact ⟨v, cellK x c e v z⟩
  · obtain ⟨m, ⟨o, _, _, ho, _⟩, _⟩ := I.loc
    exact free _ o (fun z => (hch _ z).2.1 rfl) ho I.free
  · obtain ⟨v, o, ho, hd⟩ := I.cell x c e
    exact free c o (fun z => (hch c z).2.2.1 x c e rfl) ho (I.freeC x c e)
  · obtain ⟨e, n, ne, nf, d⟩ := I.pin p hp
    have nch : p.1 ∉ ch := fun z => (hch p.1 z).2.2.2 p hp rfl
    exact ⟨keep p.1 p.2 ne nf nch e n, free p.1 p.2 nch e n, ne, nf, d⟩
theorem Inv.un {t' : Nat} (I : Inv X pins σ H s) (u : Un X.fs [] H H' s.heap h') (hok : HOk X.prog X.w H' h') : Inv X pins σ H' { s with heap := h', toks := t' } := by
  obtain ⟨m, ⟨o, es, ep, ho, r⟩, _⟩ := id I.loc
  obtain ⟨sl, hL⟩ := u.any ho I.free (by simp)
  exact I.step (g' := s.gens) (d' := s.drawn) (ch := []) (fun _ z => nomatch z) (fun b o _ hb _ e n => u.keep b o e n hb (by simp)) (fun b o _ hb _ e n => u.slot b o e n hb (by simp)) (fun b o _ e n => u.free b o e n (by simp)) (fun b o _ e => u.there b o e (by simp)) u.tups u.frzs u.tbls (fun m' hm => by
    obtain ⟨o', es', ep', ho', r'⟩ := hm
    rw [ho] at ho'; cases ho'
    exact ⟨_, es', ep', hL, r'⟩) hok I.bare
theorem Inv.call {g' : Array GenState} {t' : Nat} {d' : Drawn} {ch : List Addr} (I : Inv X pins σ H s) (u : Un (frs X.stack) ch H H' s.heap h') (hok : HOk X.prog X.w H' h') (hg : AllBare g')
    (hch : ∀ b ∈ ch, (b ∈ X.ex ∨ X.s₀.heap.objs.size ≤ b) ∧ b ≠ X.env.locals ∧ (∀ x c, X.env.cells.lookup x = some c → c ≠ b) ∧ ∀ p ∈ X.pn ++ pins, p.1 ≠ b) :
    Inv X pins σ H' { s with heap := h', gens := g', drawn := d', toks := t' } := by
  obtain ⟨m, ⟨o, es, ep, ho, r⟩, _⟩ := id I.loc
  obtain ⟨sl, hL⟩ := u.any ho I.free fun z => (hch _ z).2.1 rfl
  exact I.step (ch := ch) hch (fun b o hL hb hc e n => u.keep b o e n (fun z => (List.mem_cons.mp (I.stkSub b z)).elim hL hb) hc) (fun b o _ _ hc e n => u.any e n hc) (fun b o hc e n => u.free b o e n hc) (fun b o hc e => u.there b o e hc) u.tups u.frzs u.tbls (fun m' hm => by
    obtain ⟨o', es', ep', ho', r'⟩ := hm
    rw [ho] at ho'; cases ho'
    exact ⟨_, es', ep', hL, r'⟩) hok hg
theorem Inv.turned {t' : Nat} {it : Addr} (I : Inv X pins σ H s) (k : ∀ b o, b ≠ it → s.heap.get? b = some o → h'.get? b = some o) (hn : H it = none) (hL : it ≠ X.env.locals)
    (h1 : it ∈ X.ex ∨ X.s₀.heap.objs.size ≤ it) (h2 : ∀ x c, X.env.cells.lookup x = some c → c ≠ it) (h3 : ∀ p ∈ X.pn ++ pins, p.1 ≠ it) : Inv X pins σ H { s with heap := h', toks := t' } := by
  have nit : ∀ b u, H b = some u → b ≠ it := fun b u e z => by rw [z, hn] at e; cases e
  refine I.step (g' := s.gens) (d' := s.drawn) (ch := [it]) (fun b hb => ?_) (fun b o _ _ hc e _ => k b o (fun z => hc (by simp [z])) e) (fun b o _ _ hc e _ => ⟨o.slots, k b o (fun z => hc (by simp [z])) e⟩) (fun _ _ _ _ n => n)
    (fun b o hc e => ⟨o, k b o (fun z => hc (by simp [z])) e⟩) (fun _ _ e => e) (fun _ _ _ e => e) (fun b ps e => ⟨#[], by rw [e]; simp⟩) (fun m hm => ?_) (fun b u e => ?_) I.bare
  · have e : b = it := by simpa using hb
    subst e
    exact ⟨h1, hL, h2, h3⟩
  · obtain ⟨o, es, ep, ho, r⟩ := hm
    exact ⟨o, es, ep, k _ o (Ne.symm hL) ho, r⟩
  · refine (I.hok b u e).stay (fun c v hc q => k c v ?_ q) (fun _ q => q) fun _ _ q => q
    rcases hc with z | z
    · rw [z]; exact nit b u e
    · exact nit c _ z
theorem Inv.tok (I : Inv X pins σ H s) (t : Nat) : Inv X pins σ H { s with toks := t } := I.un (h' := s.heap) (t' := t) Un.refl I.hok
theorem Inv.kept {t' : Nat} (I : Inv X pins σ H s) (k : ∀ b u, s.heap.get? b = some u → h'.get? b = some u) : Inv X pins σ H { s with heap := h', toks := t' } := I.un (Un.kept k) (I.hok.kept k)
theorem Inv.laid {a : Addr} {o : HO} {t' : Nat} (I : Inv X pins σ H s) (k : ∀ b u, s.heap.get? b = some u → h'.get? b = some u) (hp : s.heap.objs.size ≤ a) (new : ObjOk X.prog X.w (upd H a o) h' a o) :
    Inv X pins σ (upd H a o) { s with heap := h', toks := t' } := I.un (Un.laid k hp (I.hok.fresh hp)) (I.hok.laid k hp new)
theorem Inv.write {x e : Addr} {o : HO} {t' : Nat} (I : Inv X pins σ H s) (mu : Mut (H x)) (he : e = x ∨ H e = some (.own x)) (k : ∀ b u, b ≠ e → s.heap.get? b = some u → h'.get? b = some u) (heo : ∃ u, h'.get? e = some u)
    (new : ObjOk X.prog X.w (upd H x o) h' x o) : Inv X pins σ (upd H x o) { s with heap := h', toks := t' } := I.un (Un.write mu he k heo) (I.hok.write mu he k heo new)
theorem Inv.weak {σ' : List (Option V)} (I : Inv X pins σ H s) (hl : σ'.length = σ.length) (w : ∀ (i : Nat) v, σ'[i]? = some (some v) → σ[i]? = some (some v)) : Inv X pins σ' H s :=
  ⟨I.ok, I.os, I.bare, I.base, let ⟨m, hn, hl'⟩ := I.loc; ⟨m, hn, fun i x v e1 e2 e3 => hl' i x v e1 (w i v e2) e3⟩, I.cell, I.free, I.freeC, I.pin, I.hok, hl.trans I.len⟩
theorem Inv.pins_of {pins' : List (Addr × Obj)} (I : Inv X pins σ H s) (h : ∀ p ∈ pins', s.heap.get? p.1 = some p.2 ∧ H p.1 = none ∧ p.1 ≠ X.env.locals ∧ p.1 ∉ X.fs ∧ ∀ v, p.2.data ≠ .cell v) : Inv X pins' σ H s :=
  ⟨I.ok, I.os, I.bare, I.base, I.loc, I.cell, I.free, I.freeC, fun p hp => (List.mem_append.mp hp).elim (fun z => I.pin p (List.mem_append_left _ z)) (h p), I.hok, I.len⟩

theorem nodup_ix {N : List Str} (hN : N.Nodup) {i j : Nat} {x : Str} (a : N[i]? = some x) (b : N[j]? = some x) : i = j := by
  obtain ⟨h1, e1⟩ := List.getElem?_eq_some_iff.mp a
  obtain ⟨h2, e2⟩ := List.getElem?_eq_some_iff.mp b
  exact (List.getElem_inj hN).mp (e1.trans e2.symm)

theorem store_ok2 {M : Model} {A : Around} {E : Value → Shared → Prop} {i : Nat} {x : Str} {v : V} {u : Value} {Q : Unit → Shared → Prop} (I : Inv X pins σ H s) (hN : X.N.Nodup) (hi : X.N[i]? = some x) (hx : Loc X.env.scope x) (r : RelV v u)
    (h : ∀ s', Inv X pins (σ.set i (some v)) H s' → (∃ a, Heap.SameBut a s.heap s'.heap ∧ (a = X.env.locals ∨ X.env.cells.lookup x = some a)) → Q () s') (hf : X.fn x = true ∨ X.env.scope.names.lookup x = some .local := by first | exact .inl rfl | exact .inr rfl | assumption) : wpAny M A (storeName X.env x u) Q E s := by
  obtain ⟨m, hn, hl⟩ := id I.loc
  have hcls : (X.env.scope.kind == .class || (X.env.scope.kind == .module && X.env.locals != X.env.globals)) = false := by rw [I.ok.kind]; rfl
  have hiσ : i < σ.length := by rw [I.len]; exact (List.getElem?_eq_some_iff.mp hi).1
  have cne := I.cne
  have tracked : ∀ {a : Addr} {h' : Heap}, (∃ o, s.heap.get? a = some o ∧ H a = none) → Heap.SameBut a s.heap h' → HOk X.prog X.w H h' := fun {a h'} ha hs b ob e => by
    obtain ⟨_, _, hfree⟩ := ha
    refine (I.hok b ob e).stay (fun c w' hc q => (hs.2 c ?_).trans q) (fun _ q => q) fun _ _ q => q
    rintro rfl
    rcases hc with rfl | hc
    · rw [hfree] at e; cases e
    · rw [hfree] at hc; cases hc
  rcases hx with hk | hk
  · refine wpAny_storeName_local hk hn (fun h' hn' hs => ?_) hcls
    obtain ⟨oL, _, _, hoL, _⟩ := id hn
    refine h _ ⟨I.ok, I.os, I.bare, ⟨fun b o e n hb hx => ?_, fun b o e n hb hx => ?_, I.base.free, fun b o e hx => ?_, I.base.tups, I.base.frzs, I.base.tbls⟩, ⟨_, hn', fun j y v' e1 e2 e3 => ?_⟩, fun y c e => ?_, I.free, I.freeC, fun p hp => ?_, tracked ⟨oL, hoL, I.free⟩ hs, by simpa using I.len⟩ ⟨_, hs, .inl rfl⟩
    · exact (hs.2 b (Nat.ne_of_lt (Nat.lt_of_lt_of_le (Heap.lt_size e) I.ok.above))).trans (I.base.keep b o e n hb hx)
    · obtain ⟨sl, e1⟩ := I.base.slot b o e n hb hx
      exact ⟨sl, (hs.2 b (Nat.ne_of_lt (Nat.lt_of_lt_of_le (Heap.lt_size e) I.ok.above))).trans e1⟩
    · obtain ⟨o', e1⟩ := I.base.there b o e hx
      exact ⟨o', (hs.2 b (Nat.ne_of_lt (Nat.lt_of_lt_of_le (Heap.lt_size e) I.ok.above))).trans e1⟩
    · by_cases hj : j = i
      · subst hj
        rw [hi] at e1; cases e1
        rw [List.getElem?_set_self hiσ] at e2
        cases e2
        exact ⟨u, r, .inl ⟨hk, by simp⟩⟩
      · rw [List.getElem?_set_ne (Ne.symm hj)] at e2
        obtain ⟨u', r', q⟩ := hl j y v' e1 e2 e3
        refine ⟨u', r', ?_⟩
        rcases q with ⟨k, e⟩ | ⟨k, c, e, z⟩
        · refine .inl ⟨k, ?_⟩
          have : y ≠ x := fun e => hj (nodup_ix hN e1 (e ▸ hi))
          simp [this, e]
        · exact .inr ⟨k, c, e, z.sameBut hs (cne y c e)⟩
    · obtain ⟨w', z⟩ := I.cell y c e
      exact ⟨w', z.sameBut hs (cne y c e)⟩
    · obtain ⟨e, n, ne, nf, d⟩ := I.pin p hp
      exact ⟨(hs.2 p.1 ne).trans e, n, ne, nf, d⟩
  · have hfn : X.fn x = true := by
      rcases hf with z | z
      · exact z
      · rw [z] at hk; cases hk
    obtain ⟨c, hc⟩ := I.ok.has x (.inl hk)
    obtain ⟨w', z⟩ := I.cell x c hc
    refine wpAny_storeName_cell I.ok.kind hk hc z (fun h' hc' hs => ?_)
    obtain ⟨oc, hoc, hocd⟩ := id z
    refine h { s with heap := h' } ⟨I.ok, I.os, I.bare, ⟨fun b o e n hb hx => ?_, fun b o e n hb hx => ?_, I.base.free, fun b o e hx => ?_, I.base.tups, I.base.frzs, I.base.tbls⟩, ⟨m, hn.sameBut hs (Ne.symm (cne x c hc)), fun j y v' e1 e2 e3 => ?_⟩, fun y c' e => ?_, I.free, I.freeC, fun p hp => ?_, tracked ⟨oc, hoc, I.freeC x c hc⟩ hs, by simpa using I.len⟩ ⟨c, hs, .inr hc⟩
    · exact (hs.2 b (Nat.ne_of_lt (Nat.lt_of_lt_of_le (Heap.lt_size e) (I.ok.cab x c hfn hc)))).trans (I.base.keep b o e n hb hx)
    · obtain ⟨sl, e1⟩ := I.base.slot b o e n hb hx
      exact ⟨sl, (hs.2 b (Nat.ne_of_lt (Nat.lt_of_lt_of_le (Heap.lt_size e) (I.ok.cab x c hfn hc)))).trans e1⟩
    · obtain ⟨o', e1⟩ := I.base.there b o e hx
      exact ⟨o', (hs.2 b (Nat.ne_of_lt (Nat.lt_of_lt_of_le (Heap.lt_size e) (I.ok.cab x c hfn hc)))).trans e1⟩
    · by_cases hj : j = i
      · subst hj
        rw [hi] at e1; cases e1
        rw [List.getElem?_set_self hiσ] at e2
        cases e2
        exact ⟨u, r, .inr ⟨.inl hk, c, hc, hc'⟩⟩
      · rw [List.getElem?_set_ne (Ne.symm hj)] at e2
        obtain ⟨u', r', q⟩ := hl j y v' e1 e2 e3
        refine ⟨u', r', ?_⟩
        rcases q with q | ⟨k, c', e, z'⟩
        · exact .inl q
        · refine .inr ⟨k, c', e, z'.sameBut hs ?_⟩
          rintro rfl
          exact hj (nodup_ix hN e1 (I.ok.inj _ _ _ e hc ▸ hi))
    · by_cases hcc : c' = c
      · subst hcc; exact ⟨_, hc'⟩
      · obtain ⟨w2, z2⟩ := I.cell y c' e
        exact ⟨w2, z2.sameBut hs hcc⟩
    · obtain ⟨e, n, ne, nf, d⟩ := I.pin p hp
      refine ⟨(hs.2 p.1 ?_).trans e, n, ne, nf, d⟩
      intro q
      rw [q, hoc] at e
      have q' : oc = p.2 := Option.some.inj e
      exact d w' (by rw [← q']; exact hocd)
theorem store_ok {M : Model} {A : Around} {E : Value → Shared → Prop} {i : Nat} {x : Str} {v : V} {u : Value} {Q : Unit → Shared → Prop} (I : Inv X pins σ H s) (hN : X.N.Nodup) (hi : X.N[i]? = some x) (hx : Loc X.env.scope x) (r : RelV v u)
    (h : ∀ s', Inv X pins (σ.set i (some v)) H s' → Q () s') (hf : X.fn x = true ∨ X.env.scope.names.lookup x = some .local := by first | exact .inl rfl | exact .inr rfl | assumption) : wpAny M A (storeName X.env x u) Q E s :=
  store_ok2 I hN hi hx r (fun s' I' _ => h s' I') hf
theorem Inv.call' {s' : Shared} {ch : List Addr} (I : Inv X pins σ H s) (ho : s'.os = s.os) (u : Un (frs X.stack) ch H H' s.heap s'.heap) (hok : HOk X.prog X.w H' s'.heap) (hg : AllBare s'.gens)
    (hch : ∀ b ∈ ch, (b ∈ X.ex ∨ X.s₀.heap.objs.size ≤ b) ∧ b ≠ X.env.locals ∧ (∀ x c, X.env.cells.lookup x = some c → c ≠ b) ∧ ∀ p ∈ X.pn ++ pins, p.1 ≠ b) : Inv X pins σ H' s' := by
  obtain ⟨h', g', d', t', o'⟩ := s'
  have e : o' = s.os := ho
  subst e
  exact I.call (g' := g') (t' := t') (d' := d') u hok hg hch
end

abbrev XK := Value → Option Addr → Hp → Prop
abbrev St := List (Option V)
abbrev VK := V → Hp → Prop
abbrev TE := St → Hp → VK → Prop
abbrev TT := St → Hp → (Bool → Hp → Prop) → Prop
abbrev TA := St → Hp → (List V → Hp → Prop) → Prop
structure Ends where
  nx : St → Hp → Prop
  rt : VK
  bk : St → Hp → Prop := fun _ _ => False
  ct : St → Hp → Prop := fun _ _ => False
abbrev TS := Ends → St → Hp → Prop

def EP (X : Cx) (pins : List (Addr × Obj)) (σ : St) (Q : VK) (u : Value) (s' : Shared) : Prop := ∃ v H', Inv X pins σ H' s' ∧ RelV v u ∧ Q v H'
def TP (X : Cx) (pins : List (Addr × Obj)) (σ : St) (Q : Bool → Hp → Prop) (b : Bool) (s' : Shared) : Prop := ∃ H', Inv X pins σ H' s' ∧ Q b H'
def AP (X : Cx) (pins : List (Addr × Obj)) (σ : St) (Q : List V → Hp → Prop) (us : List Value) (s' : Shared) : Prop := ∃ vs H', Inv X pins σ H' s' ∧ Vals vs us ∧ Q vs H'
def SP (X : Cx) (pins : List (Addr × Obj)) (D : Ends) (f : Flow) (s' : Shared) : Prop :=
  match f with
  | .next => ∃ σ' H', Inv X pins σ' H' s' ∧ D.nx σ' H'
  | .brk => ∃ σ' H', Inv X pins σ' H' s' ∧ D.bk σ' H'
  | .cont => ∃ σ' H', Inv X pins σ' H' s' ∧ D.ct σ' H'
  | .ret u => ∃ v σ' H', Inv X pins σ' H' s' ∧ RelV v u ∧ D.rt v H'

def PE (X : Cx) (e : Expr) (t : TE) : Prop :=
  ∀ (pins : List (Addr × Obj)) (s : Shared) (σ : St) (H : Hp) (Q : VK), Inv X pins σ H s → t σ H Q → wpAny (model X.prog X.w) X.A (eval e X.env) (EP X pins σ Q) X.xe s
def PT (X : Cx) (e : Expr) (t : TT) : Prop :=
  ∀ (pins : List (Addr × Obj)) (s : Shared) (σ : St) (H : Hp) (Q : Bool → Hp → Prop), Inv X pins σ H s → t σ H Q → wpAny (model X.prog X.w) X.A (isTrue e X.env (eval e X.env)) (TP X pins σ Q) X.xe s
def PW (X : Cx) (e : Expr) (t : TT) : Prop :=
  ∀ (whole : Sem Value) (pins : List (Addr × Obj)) (s : Shared) (σ : St) (H : Hp) (Q : Bool → Hp → Prop), Inv X pins σ H s → t σ H Q → wpAny (model X.prog X.w) X.A (isTrue e X.env whole) (TP X pins σ Q) X.xe s
theorem PW.pt {X : Cx} {e : Expr} {t : TT} (h : PW X e t) : PT X e t := h _
def PA (X : Cx) (es : List Expr) (t : TA) : Prop :=
  ∀ (pos : Pos) (pins : List (Addr × Obj)) (s : Shared) (σ : St) (H : Hp) (Q : List V → Hp → Prop), Inv X pins σ H s → t σ H Q → wpAny (model X.prog X.w) X.A (spliced (backTo pos (starEach es X.env))) (AP X pins σ Q) X.xe s
def PS (X : Cx) (st : Stmt) (t : TS) : Prop :=
  ∀ (pins : List (Addr × Obj)) (s : Shared) (σ : St) (H : Hp) (D : Ends), Inv X pins σ H s → t D σ H → wpAny (model X.prog X.w) X.A (exec st X.env) (SP X pins D) X.xe s
def PSs (X : Cx) (st : List Stmt) (t : TS) : Prop :=
  ∀ (pins : List (Addr × Obj)) (s : Shared) (σ : St) (H : Hp) (D : Ends), Inv X pins σ H s → t D σ H → wpAny (model X.prog X.w) X.A (execs st X.env) (SP X pins D) X.xe s
theorem thn {α : Type} {t : Sem α} {Q Q' : α → Shared → Prop} {M : Model} {A : Around} {E : Value → Shared → Prop} {s : Shared} (h : wpAny M A t Q E s) (hQ : ∀ a s, Q a s → Q' a s) : wpAny M A t Q' E s := wpAny_mono h hQ fun _ _ x => x
end L2

namespace L2
open PySem PySem.Spec PyProof.Rows
section
variable {X : Cx}

def tVar (i : Nat) : TE := fun σ H Q => ∃ v, σ[i]? = some (some v) ∧ Q v H
def tC (v : V) : TE := fun _ H Q => Q v H
theorem pe_var {i : Nat} {x : Str} {pos : Pos} (hN : X.N[i]? = some x) (hv : Vis X.env.scope x) (hd : (x == ("__debug__" : Str)) = false := by decide) (hcd : (x == ("__classdict__" : Str)) = false := by decide) : PE X (.Name x pos) (tVar i) := by
  intro pins s σ H Q I h
  obtain ⟨v, e, h⟩ := h
  obtain ⟨m, hn, hl⟩ := I.loc
  obtain ⟨u, r, l⟩ := hl i x v hN e hv
  have fin : EP X pins σ Q u s := ⟨v, H, I, r, h⟩
  rcases l with ⟨hk, hm⟩ | ⟨hk, c, hc, hcell⟩
  · exact wpAny_Name (wpAny_loadName_local I.ok.kind hk hn hm fin) hd
  · rcases hk with hk | hk
    · exact wpAny_Name (wpAny_loadName_cell I.ok.kind hk hc hcell fin) hd
    · exact wpAny_Name (wpAny_loadName_free I.ok.kind hk hc hcell fin hcd) hd
theorem pe_int {i j pos} : PE X (.Constant (.int i) j pos) (tC (.int i)) := fun _ _ _ H _ I h => wpAny_Constant_int ⟨.int i, H, I.tok _, ⟨_, rfl⟩, h⟩
theorem pe_bl {b j pos} : PE X (.Constant (.bool b) j pos) (tC (.bl b)) := fun _ _ _ H _ I h => Constant_bool ⟨.bl b, H, I, rfl, h⟩
theorem pe_str {x j pos} : PE X (.Constant (.str x) j pos) (tC (.str x)) := fun _ _ _ H _ I h => Calls.Constant_str ⟨.str x, H, I.tok _, ⟨_, rfl⟩, h⟩

def Gl (X : Cx) (x : Str) : Prop := X.env.kindOf x = some .globalImplicit
theorem ld_glob {E : Value → Shared → Prop} {pins : List (Addr × Obj)} {s : Shared} {σ : St} {H : Hp} {x : Str} {u : Value} {pos : Pos} {Q : Value → Shared → Prop} (I : Inv X pins σ H s) (hg : Gl X x) (hm : X.mg x = some u) (h : Q u s)
    (hd : (x == ("__debug__" : Str)) = false := by decide) : wpAny (model X.prog X.w) X.A (eval (.Name x pos) X.env) Q E s :=
  Calls.Name_function_global I.ok.kind hg (Calls.loadGlobal_global (by rw [I.ok.glob]; exact I.mod.glob.keeps I.bk) hm h) hd
theorem ld_blt {E : Value → Shared → Prop} {pins : List (Addr × Obj)} {s : Shared} {σ : St} {H : Hp} {x : Str} {u : Value} {pos : Pos} {Q : Value → Shared → Prop} (I : Inv X pins σ H s) (hg : Gl X x) (hm : X.mg x = none) (hv : bootBuiltins x = some u) (h : Q u s)
    (hn : x ≠ "__name__" := by decide) (hd : (x == ("__debug__" : Str)) = false := by decide) : wpAny (model X.prog X.w) X.A (eval (.Name x pos) X.env) Q E s := by
  obtain ⟨mb, h1, h2⟩ := I.mod.blt
  exact Calls.Name_function_global I.ok.kind hg (Calls.loadGlobal_builtin (by rw [I.ok.glob]; exact I.mod.glob.keeps I.bk) hm (by rw [I.ok.blt]; exact h1.keeps I.bk) ((h2 x hn).trans hv) h) hd
theorem pe_bltn {x : Str} {v : V} {u : Value} {pos : Pos} (hg : Gl X x) (hm : X.mg x = none) (hv : bootBuiltins x = some u) (r : RelV v u) (hn : x ≠ "__name__" := by decide) (hd : (x == ("__debug__" : Str)) = false := by decide) : PE X (.Name x pos) (tC v) :=
  fun _ _ _ H _ I h => ld_blt I hg hm hv ⟨v, H, I, r, h⟩ hn hd

variable {a b : Expr} {ta tb : TE} {pos : Pos}
def PC (X : Cx) (op : CmpOp) (a b : Expr) (t : TE) : Prop :=
  ∀ (pins : List (Addr × Obj)) (s : Shared) (σ : St) (H : Hp) (Q : VK), Inv X pins σ H s → t σ H Q →
    wpAny (model X.prog X.w) X.A (eval a X.env) (fun v s₁ => wpAny (model X.prog X.w) X.A (eval b X.env) (fun u s₂ => wpAny (model X.prog X.w) X.A (compareOp op v u) (EP X pins σ Q) X.xe s₂) X.xe s₁) X.xe s
def tB (t : TE) : TT := fun σ H Q => t σ H fun x H1 => ∃ c, x = .bl c ∧ Q c H1
theorem pt_cmp {op : CmpOp} {t : TE} (h : PC X op a b t) (h1 : behindInMarks op b = false := by first | exact nobehind _ (by decide) (by decide) | rfl) : PT X (.Compare a [op] [b] pos) (tB t) := by
  intro pins s σ H Q I hw
  refine wpAny_isTrue_Compare1 (thn (h pins s σ H _ I hw) fun v s1 h1 => thn h1 fun u s2 h2 => thn h2 fun c s3 ⟨x, H1, I1, r1, q1⟩ => ?_) h1
  obtain ⟨d, rfl, q⟩ := q1
  cases r1
  exact wpAny_truthy_bool ⟨H1, I1, q⟩
theorem pt_val {e : Expr} {t : TE} (h : PE X e t) (he : ∀ whole, isTrue e X.env whole = (do let v ← whole; standAt e.pos; holding [v] (truthy v)) := by intro _; rfl) : PT X e (tB t) := by
  intro pins s σ H Q I hw
  refine isTrue_plain (thn (h pins s σ H _ I hw) fun v s1 ⟨x, H1, I1, r1, q1⟩ => ?_) (he _)
  obtain ⟨d, rfl, q⟩ := q1
  cases r1
  exact wpAny_truthy_bool ⟨H1, I1, q⟩

variable {tA tB' : TT} {rest : List Expr}
def tOr (t u : TT) : TT := fun σ H Q => t σ H fun c H1 => if c = true then Q true H1 else u σ H1 Q
def tNot (t : TT) : TT := fun σ H Q => t σ H fun c H1 => Q (!c) H1
theorem pw_or1 (ha : PT X a tA) : PW X (.BoolOp .Or [a] pos) tA := by
  intro wh pins s σ H Q I h
  refine isTrue_or (thn (ha pins s σ H Q I h) fun c s1 e => ?_)
  cases c with
  | false => exact isTrue_or_nil e
  | true => exact e
theorem pw_or (ha : PT X a tA) (hb : PW X (.BoolOp .Or (b :: rest) pos) tB') : PW X (.BoolOp .Or (a :: b :: rest) pos) (tOr tA tB') := by
  intro wh pins s σ H Q I h
  refine isTrue_or (thn (ha pins s σ H _ I h) fun c s1 ⟨H1, I1, q1⟩ => ?_)
  cases c with
  | true => exact ⟨H1, I1, q1⟩
  | false => exact hb wh pins s1 σ H1 Q I1 q1
theorem pt_not (ha : PT X a tA) : PT X (.UnaryOp .Not a pos) (tNot tA) := by
  intro pins s σ H Q I h
  exact isTrue_not (ha pins s σ H (fun c H1 => Q (!c) H1) I h)
end
end L2

namespace L2
open PySem PySem.Spec PyProof.Rows

def SqL (K : PySem.W.Frag) (H : Hp) (a : Addr) (xs : List V) : Prop :=
  Rd H a (.lst xs) ∨
    ∃ (o : Obj) (its : Array Value) (n : Nat), K.lookup a = some o ∧ o.cls = .type "list" ∧ o.dict = none ∧ o.data = .seq its n ∧ its.size ≤ sizeLine ∧ Vals xs its.toList
def SqT (K : PySem.W.Frag) (H : Hp) (a : Addr) (xs : List V) : Prop :=
  Rd H a (.tup xs) ∨
    ∃ (o : Obj) (its : Array Value) (n : Nat), K.lookup a = some o ∧ o.cls = .type "tuple" ∧ o.data = .seq its n ∧ its.size ≤ sizeLine ∧ Vals xs its.toList
def absV : Value → Option V
  | .none => some .non
  | .bool b => some (.bl b)
  | .int i _ => some (.int i)
  | .str x _ => some (.str x)
  | .bytes b _ => some (.byt b)
  | .float b _ => some (.flt b)
  | .ref a => some (.ref a)
  | .type n => some (.ty n)
  | _ => none
theorem RelV.abs {x : V} {u : Value} (r : RelV x u) : absV u = some x := by
  cases x with
  | non => cases r; rfl
  | bl _ => cases r; rfl
  | int _ => obtain ⟨t, rfl⟩ := r; rfl
  | str _ => obtain ⟨t, rfl⟩ := r; rfl
  | byt _ => obtain ⟨t, rfl⟩ := r; rfl
  | flt _ => obtain ⟨t, rfl⟩ := r; rfl
  | ref _ => cases r; rfl
  | ty _ => cases r; rfl
theorem RelV.inj {x y : V} {u : Value} (r : RelV x u) (q : RelV y u) : x = y := Option.some.inj (r.abs.symm.trans q.abs)
theorem Vals.inj : ∀ {xs ys : List V} {us : List Value}, Vals xs us → Vals ys us → xs = ys
  | _, _, _, .nil, .nil => rfl
  | _, _, _, .cons r t, .cons r' t' => by rw [r.inj r', Vals.inj t t']
section
variable {X : Cx} {pins : List (Addr × Obj)} {σ : St} {H : Hp} {s : Shared} {a : Addr} {xs ys : List V}
theorem SqL.of {K : PySem.W.Frag} (h : H a = some (.lst xs)) : SqL K H a xs := .inl (.inl h)
theorem SqT.of {K : PySem.W.Frag} (h : H a = some (.tup xs)) : SqT K H a xs := .inl (.inl h)
theorem Inv.list (I : Inv X pins σ H s) (h : SqL X.K H a xs) : ∃ its : List Value, Vals xs its ∧ PlainL s.heap a its.toArray ∧ xs.length ≤ sizeLine := by
  rcases h with h | ⟨o, its, n, hk, hc, hd, hs, hz, r⟩
  · obtain ⟨z, its, n, r, e⟩ := h.ok I.hok
    exact ⟨its, r, ⟨_, n, e, rfl, rfl, rfl⟩, z⟩
  · refine ⟨its.toList, r, ⟨o, n, I.kIn a o hk, hc, hd, by simpa using hs⟩, ?_⟩
    have e := r.length
    simp only [Array.length_toList] at e
    omega
theorem Inv.tuple (I : Inv X pins σ H s) (h : SqT X.K H a xs) : ∃ its : List Value, Vals xs its ∧ IsTup s.heap a its.toArray ∧ xs.length ≤ sizeLine := by
  rcases h with h | ⟨o, its, n, hk, hc, hs, hz, r⟩
  · obtain ⟨z, its, r, p⟩ := h.ok I.hok
    exact ⟨its, r, p, z⟩
  · refine ⟨its.toList, r, ⟨o, I.kIn a o hk, hc, n, by simpa using hs⟩, ?_⟩
    have e := r.length
    simp only [Array.length_toList] at e
    omega
theorem Inv.list_inj (I : Inv X pins σ H s) (h : SqL X.K H a xs) (h' : SqL X.K H a ys) : xs = ys := by
  obtain ⟨its, r, ⟨o, n, e, _, _, d⟩, _⟩ := I.list h
  obtain ⟨its', r', ⟨o', n', e', _, _, d'⟩, _⟩ := I.list h'
  rw [e] at e'; cases e'
  rw [d] at d'
  injection d' with d1 _
  have : its = its' := by simpa using congrArg Array.toList d1
  subst this
  exact r.inj r'
theorem Inv.tuple_inj (I : Inv X pins σ H s) (h : SqT X.K H a xs) (h' : SqT X.K H a ys) : xs = ys := by
  obtain ⟨its, r, ⟨o, e, _, n, d⟩, _⟩ := I.tuple h
  obtain ⟨its', r', ⟨o', e', _, n', d'⟩, _⟩ := I.tuple h'
  rw [e] at e'; cases e'
  rw [d] at d'
  injection d' with d1 _
  have : its = its' := by simpa using congrArg Array.toList d1
  subst this
  exact r.inj r'
end

abbrev Cx.wish (X : Cx) (E : Value → Shared → Prop) : Cx := { X with xe := E }
abbrev Cx.nox (X : Cx) : Cx := X.wish fun _ _ => False
theorem Cx.Ok.wish {X : Cx} (ok : X.Ok) (E : Value → Shared → Prop) : (X.wish E).Ok :=
  ⟨ok.mod, ok.kind, ok.glob, ok.blt, ok.above, ok.inj, ok.has, ok.cab, ok.hd, ok.frames, ok.stk, ok.exf, ok.bs, ok.bsz, ok.noex, ok.exfs, ok.funs, ok.frf⟩
theorem Cx.Ok.unwish {X : Cx} {E : Value → Shared → Prop} (ok : (X.wish E).Ok) : X.Ok :=
  ⟨ok.mod, ok.kind, ok.glob, ok.blt, ok.above, ok.inj, ok.has, ok.cab, ok.hd, ok.frames, ok.stk, ok.exf, ok.bs, ok.bsz, ok.noex, ok.exfs, ok.funs, ok.frf⟩
section
variable {X : Cx} {pins : List (Addr × Obj)} {σ : St} {H : Hp} {s : Shared} {E : Value → Shared → Prop}
theorem Inv.wish (I : Inv X pins σ H s) (E : Value → Shared → Prop) : Inv (X.wish E) pins σ H s := ⟨I.ok.wish E, I.os, I.bare, I.base, I.loc, I.cell, I.free, I.freeC, I.pin, I.hok, I.len⟩
theorem Inv.unwish (I : Inv (X.wish E) pins σ H s) : Inv X pins σ H s := ⟨I.ok.unwish, I.os, I.bare, I.base, I.loc, I.cell, I.free, I.freeC, I.pin, I.hok, I.len⟩
theorem SP.unwish {D : Ends} {f : Flow} {s' : Shared} (h : SP (X.wish E) pins D f s') : SP X pins D f s' := by
  cases f with
  | next => obtain ⟨σ', H', I, q⟩ := h; exact ⟨σ', H', I.unwish, q⟩
  | brk => obtain ⟨σ', H', I, q⟩ := h; exact ⟨σ', H', I.unwish, q⟩
  | cont => obtain ⟨σ', H', I, q⟩ := h; exact ⟨σ', H', I.unwish, q⟩
  | ret u => obtain ⟨v, σ', H', I, r, q⟩ := h; exact ⟨v, σ', H', I.unwish, r, q⟩
theorem PSs.nox {st : List Stmt} {t : TS} (h : PSs X.nox st t) : PSs X st t := fun pins s σ H D I hw =>
  wpAny_mono (h pins s σ H D (I.wish _) hw) (fun _ _ q => q.unwish) fun _ _ z => False.elim z
end

section
variable {X : Cx} {st : Stmt} {rest : List Stmt} {t u : TS} {e : Expr} {te : TE} {pos : Pos}
def tNext : TS := fun D σ H => D.nx σ H
def tSeq (t u : TS) : TS := fun D σ H => t { D with nx := u D } σ H
theorem pss_nil : PSs X [] tNext := fun _ _ σ H _ I h => wpAny_execs_nil ⟨σ, H, I, h⟩
theorem pss_cons (h1 : PS X st t) (h2 : PSs X rest u) : PSs X (st :: rest) (tSeq t u) := by
  intro pins s σ H D I h
  refine wpAny_execs_cons (thn (h1 pins s σ H { D with nx := u D } I h) fun f s1 q => ?_)
  cases f with
  | next =>
    obtain ⟨σ', H', I', q⟩ := q
    exact h2 pins s1 σ' H' D I' q
  | ret v => exact q
  | brk => exact q
  | cont => exact q
theorem pss_one (h1 : PS X st t) : PSs X [st] t := by
  intro pins s σ H D I h
  refine wpAny_execs_cons (thn (h1 pins s σ H D I h) fun f s1 q => ?_)
  cases f with
  | next => exact wpAny_execs_nil q
  | ret v => exact q
  | brk => exact q
  | cont => exact q
theorem Inv.quiet {pins : List (Addr × Obj)} {σ : St} {H : Hp} {s : Shared} (I : Inv X pins σ H s) : interactive X.env = false := by simp [interactive, I.ok.kind]
def tDrop (te : TE) : TS := fun D σ H => te σ H fun _ H1 => D.nx σ H1
theorem ps_expr (he : PE X e te) (hs : swapsWith e none pos.line X.env = pure false := by rfl) : PS X (.Expr e pos) (tDrop te) := by
  intro pins s σ H D I h
  exact wpAny_Expr_any (thn (he pins s σ H _ I h) fun v s1 ⟨x, H1, I1, r1, q1⟩ => ⟨σ, H1, I1, q1⟩) I.quiet hs
def tRet (te : TE) : TS := fun D σ H => te σ H D.rt
theorem ps_ret (he : PE X e te) : PS X (.Return (some e) pos) (tRet te) := by
  intro pins s σ H D I h
  exact wpAny_Return_some (thn (he pins s σ H _ I h) fun v s1 ⟨x, H1, I1, r1, q1⟩ => ⟨x, σ, H1, I1, r1, q1⟩)
def tIfS (c : TT) (t u : TS) : TS := fun D σ H => c σ H fun b H1 => if b = true then t D σ H1 else u D σ H1
theorem ps_if {c : Expr} {a b : List Stmt} {tc : TT} (hc : PT X c tc) (ha : PSs X a t) (hb : PSs X b u) : PS X (.If c a b pos) (tIfS tc t u) := by
  intro pins s σ H D I h
  refine wpAny_If (thn (hc pins s σ H _ I h) fun d s1 ⟨H1, I1, q1⟩ => ?_)
  cases d with
  | true => exact ha pins s1 σ H1 D I1 q1
  | false => exact hb pins s1 σ H1 D I1 q1
def tNever : TS := fun _ _ _ => False
theorem ps_never : PS X st tNever := fun _ _ _ _ _ _ h => h.elim
end

abbrev TG := V → St → Hp → (St → Hp → Prop) → Prop
abbrev TGs := List V → St → Hp → (St → Hp → Prop) → Prop
def PG (X : Cx) (target : Expr) (t : TG) : Prop :=
  ∀ (pins : List (Addr × Obj)) (s : Shared) (σ : St) (H : Hp) (v : V) (u : Value) (Q : St → Hp → Prop), Inv X pins σ H s → RelV v u → t v σ H Q →
    wpAny (model X.prog X.w) X.A (assign target X.env u) (fun _ s' => ∃ σ' H', Inv X pins σ' H' s' ∧ Q σ' H') X.xe s
def PGs (X : Cx) (ts : List Expr) (t : TGs) : Prop :=
  ∀ (pins : List (Addr × Obj)) (s : Shared) (σ : St) (H : Hp) (vs : List V) (us : List Value) (Q : St → Hp → Prop), Inv X pins σ H s → Vals vs us → t vs σ H Q →
    wpAny (model X.prog X.w) X.A (assignInOrder ((assignEach ts X.env).map (·.2)) us) (fun _ s' => ∃ σ' H', Inv X pins σ' H' s' ∧ Q σ' H') X.xe s
section
variable {X : Cx} {pos : Pos}
def gName (i : Nat) : TG := fun v σ H Q => Q (σ.set i (some v)) H
theorem pg_name {i : Nat} {x : Str} (hN : X.N.Nodup) (hi : X.N[i]? = some x) (hx : Loc X.env.scope x) (hf : X.fn x = true ∨ X.env.scope.names.lookup x = some .local := by first | exact .inl rfl | exact .inr rfl | assumption) : PG X (.Name x pos) (gName i) := by
  intro pins s σ H v u Q I r h
  exact wpAny_assign_Name (store_ok I hN hi hx r (fun s' I' => ⟨_, H, I', h⟩) hf)
def gNil : TGs := fun vs σ H Q => vs = [] ∧ Q σ H
def gCons (t : TG) (u : TGs) : TGs := fun vs σ H Q => ∃ v r, vs = v :: r ∧ t v σ H fun σ' H' => u r σ' H' Q
theorem pgs_nil : PGs X [] gNil := by
  intro pins s σ H vs us Q I r h
  obtain ⟨e, h⟩ := h
  subst e
  cases r
  exact assignInOrder_nil ⟨σ, H, I, h⟩
theorem pgs_cons {e : Expr} {es : List Expr} {t : TG} {u : TGs} (h1 : PG X e t) (h2 : PGs X es u)
    (hs : (assignEach (e :: es) X.env).map (·.2) = assign e X.env :: (assignEach es X.env).map (·.2) := by rfl) : PGs X (e :: es) (gCons t u) := by
  intro pins s σ H vs us Q I r h
  obtain ⟨v, vr, e1, h⟩ := h
  subst e1
  cases r with
  | cons r rr =>
    rw [hs]
    refine assignInOrder_cons (thn (h1 pins s σ H _ _ _ I r h) fun _ s1 ⟨σ1, H1, I1, q1⟩ => ?_)
    exact h2 pins s1 σ1 H1 _ _ Q I1 rr q1
def gTup (K : PySem.W.Frag) (n : Nat) (t : TGs) : TG := fun v σ H Q => ∃ a xs, v = .ref a ∧ SqT K H a xs ∧ xs.length = n ∧ t xs σ H Q
theorem pg_tup {es : List Expr} {k : Nat} {t : TGs} {n : Nat} (hc : X.calm = true) (h : PGs X es t)
    (hn : (assignEach es X.env).length = n := by rfl) (hst : (assignEach es X.env).findIdx? (·.1) = none := by rfl) : PG X (.Tuple es k pos) (gTup X.K n t) := by
  intro pins s σ H v u Q I r hw
  obtain ⟨a, xs, e1, hq, hl, hw⟩ := hw
  subst e1
  cases r
  obtain ⟨its, rv, ht, hz⟩ := I.tuple hq
  refine assign_Tuple_tuple (I.ok.hd hc) ht (by simp [hn, ← hl, rv.length]) hst fun h' hx => ?_
  have I1 : Inv X pins σ H { s with heap := h' } := I.kept (t' := s.toks) fun b o e => hx b o (Nat.ne_of_lt (Heap.lt_size e)) e
  exact h pins _ σ H xs _ Q I1 (by simpa using rv) hw
def tAsg (te : TE) (g : TG) : TS := fun D σ H => te σ H fun x H1 => g x σ H1 D.nx
theorem ps_set {i : Nat} {x : Str} {e : Expr} {te : TE} {pos' : Pos} (hN : X.N.Nodup) (hi : X.N[i]? = some x) (hx : Loc X.env.scope x) (he : PE X e te) (hs : swapsWith e (some (.Name x pos')) pos.line X.env = pure false := by rfl) (hf : X.fn x = true ∨ X.env.scope.names.lookup x = some .local := by first | exact .inl rfl | exact .inr rfl | assumption) :
    PS X (.Assign [.Name x pos'] e pos) (tAsg te (gName i)) := by
  intro pins s σ H D I h
  refine wpAny_Assign_Name (thn (he pins s σ H _ I h) fun v s1 ⟨y, H1, I1, r1, q1⟩ => ?_) hs
  exact store_ok I1 hN hi hx r1 (fun s2 I2 => ⟨_, H1, I2, q1⟩) hf
end

structure It where
  go : Nat → Hp → Prop
  yld : Nat → Hp → V → Hp → Prop
  stop : Nat → Hp → Prop
def FpOk (X : Cx) (pins : List (Addr × Obj)) (H : Hp) (b : Addr) : Prop :=
  H b = none ∧ b ≠ X.env.locals ∧ b ∉ X.fs ∧ (b ∈ X.ex ∨ X.s₀.heap.objs.size ≤ b) ∧ (∀ x c, X.env.cells.lookup x = some c → c ≠ b) ∧ ∀ p ∈ X.pn ++ pins, p.1 ≠ b
theorem Inv.fpOk {X : Cx} {pins : List (Addr × Obj)} {σ : St} {H H' : Hp} {s : Shared} {b : Addr} (I : Inv X pins σ H s) (hb : s.heap.objs.size ≤ b) (hn : H' b = none) : FpOk X pins H' b := by
  refine ⟨hn, Nat.ne_of_gt (Nat.lt_of_lt_of_le I.lt hb), I.nofs hb, .inr (Nat.le_trans I.sz hb), fun x c e z => ?_, fun p hp z => ?_⟩
  · obtain ⟨v, q⟩ := I.cell x c e
    exact absurd (Nat.lt_of_lt_of_le q.lt (by rw [z]; exact hb)) (Nat.lt_irrefl _)
  · exact absurd (Nat.lt_of_lt_of_le (Heap.lt_size (I.pin p hp).1) (by rw [z]; exact hb)) (Nat.lt_irrefl _)
structure Turn (P : Program) (w : World) (K : PySem.W.Frag) (tg : Expr) (J : It) (fp : List Addr) (it : Addr) (tn : Nat → Heap → Prop) : Prop where
  mem : it ∈ fp
  obj : ∀ i h, tn i h → ∀ b ∈ fp, ∃ o, h.get? b = some o ∧ ∀ v, o.data ≠ .cell v
  keep : ∀ i h h', tn i h → (∀ b ∈ fp, ∀ o, h.get? b = some o → h'.get? b = some o) → tn i h'
  item : ∀ (X : Cx), X.prog = P → X.w = w → X.K = K → X.calm = true → ∀ (i : Nat) (pins : List (Addr × Obj)) (s : Shared) (σ : St) (H : Hp) (E : Value → Shared → Prop), Inv X pins σ H s → (∀ b ∈ fp, FpOk X pins H b) → tn i s.heap → J.go i H →
    wpAny (model P w) X.A (pyNext (.ref it)) (fun r s1 => ∃ u, r = some u ∧
      wpAny (model P w) X.A (letOwnedTupleGo tg (.ref it) u) (fun _ s2 => ∃ x H', Inv X pins σ H' s2 ∧ RelV x u ∧ J.yld i H x H' ∧ tn (i + 1) s2.heap ∧ ∀ b ∈ fp, H' b = none) E s1) E s
  done : ∀ (X : Cx), X.prog = P → X.w = w → X.K = K → X.calm = true → ∀ (i : Nat) (pins : List (Addr × Obj)) (s : Shared) (σ : St) (H : Hp) (E : Value → Shared → Prop), Inv X pins σ H s → (∀ b ∈ fp, FpOk X pins H b) → tn i s.heap → J.stop i H →
    wpAny (model P w) X.A (pyNext (.ref it)) (fun r s1 => r = none ∧ Inv X pins σ H s1) E s
  self : ∀ (A : Around) (i : Nat) (s : Shared) (Q : Value → Shared → Prop) (E : Value → Shared → Prop), tn i s.heap → Q (.ref it) s → wpAny (model P w) A (pyIter (.ref it)) Q E s
abbrev TI := St → Hp → (It → Hp → Prop) → Prop
def PIE (X : Cx) (pins : List (Addr × Obj)) (σ : St) (tg : Expr) (R : It → Hp → Prop) (itv : Value) (s2 : Shared) : Prop :=
  ∃ (it : Addr) (fp : List Addr) (tn : Nat → Heap → Prop) (J : It) (H' : Hp), itv = .ref it ∧ Inv X pins σ H' s2 ∧ Turn X.prog X.w X.K tg J fp it tn ∧ tn 0 s2.heap ∧ (∀ b ∈ fp, FpOk X pins H' b) ∧ R J H'
def PI (X : Cx) (tg iter : Expr) (wi : TI) : Prop :=
  ∀ (pins : List (Addr × Obj)) (s : Shared) (σ : St) (H : Hp) (R : It → Hp → Prop), Inv X pins σ H s → wi σ H R →
    wpAny (model X.prog X.w) X.A (eval iter X.env) (fun v s1 => wpAny (model X.prog X.w) X.A (pyIter v) (PIE X pins σ tg R) X.xe s1) X.xe s

theorem go_of {M : Model} {A : Around} {E : Value → Shared → Prop} {s : Shared} {tg : Expr} {it : Addr} {u : Value} {o : Obj} {n : String} {vs : Array Value} {Q : Unit → Shared → Prop} (ho : s.heap.get? it = some o) (hc : o.cls = .type n) (hd : o.data = .fields vs)
    (hn : ["enumerate", "zip", "dict_itemiterator", "dict_reverseitemiterator", "odict_iterator", "itertools.zip_longest", "itertools.pairwise"].contains n = false) (hQ : Q () s) : wpAny M A (letOwnedTupleGo tg (.ref it) u) Q E s := by
  unfold letOwnedTupleGo
  cases tg <;> first
    | exact wpAny_pure hQ
    | (cases u <;> first
        | exact wpAny_pure hQ
        | (refine wpAny_bind (wpAny_load ho ?_)
           rw [hc, hd]
           show wpAny M A (if (["enumerate", "zip", "dict_itemiterator", "dict_reverseitemiterator", "odict_iterator", "itertools.zip_longest", "itertools.pairwise"].contains n && vs[0]? == some (rawInt _)) = true then _ else _) Q E s
           rw [if_neg (by intro h; rw [hn, Bool.false_and] at h; cases h)]
           exact wpAny_pure hQ))

def Itl (K : PySem.W.Frag) (a : Addr) : It :=
  ⟨fun i H => ∃ xs x, SqL K H a xs ∧ xs[i]? = some x, fun i H x H' => H' = H ∧ ∀ xs, SqL K H a xs → xs[i]? = some x, fun i H => ∃ xs, SqL K H a xs ∧ xs.length ≤ i⟩
def Itt (K : PySem.W.Frag) (a : Addr) : It :=
  ⟨fun i H => ∃ xs x, SqT K H a xs ∧ xs[i]? = some x, fun i H x H' => H' = H ∧ ∀ xs, SqT K H a xs → xs[i]? = some x, fun i H => ∃ xs, SqT K H a xs ∧ xs.length ≤ i⟩
def Itr (lo : Int) (n : Nat) : It := ⟨fun i _ => i < n, fun i H x H' => H' = H ∧ x = .int (lo + i), fun i _ => n ≤ i⟩
theorem turn_list {P : Program} {w : World} {K : PySem.W.Frag} {tg : Expr} (a it : Addr) : Turn P w K tg (Itl K a) [it] it (fun i h => h.IsListIter it a i) where
  mem := by simp
  obj := fun i h st b hb => by
    have e : b = it := by simpa using hb
    subst e
    obtain ⟨o, e, c, d⟩ := st
    exact ⟨o, e, fun v z => by rw [d] at z; cases z⟩
  keep := fun i h h' st k => st.at fun o e => k it (by simp) o e
  item := by
    intro X hP hw hK hc i pins s σ H E I hf st hg
    subst hP hw hK
    obtain ⟨xs, x, hq, hx⟩ := hg
    obtain ⟨its, rv, p, hz⟩ := I.list hq
    obtain ⟨u, hu, ru⟩ := rv.get hx
    obtain ⟨f0, f1, f2, f3, f4, f5⟩ := hf it (by simp)
    refine wpAny_pyNext_list_item st p.isList (x := u) (by simpa using hu) fun h' st' sb => ?_
    have I1 : Inv X pins σ H { s with heap := h' } := I.turned (t' := s.toks) (fun b o hb e => (sb.2 b hb).trans e) f0 f1 f3 f4 f5
    obtain ⟨o, e, c, d⟩ := id st'
    exact ⟨u, rfl, go_of (s := { s with heap := h' }) e c d (by decide) ⟨x, H, I1, ru, ⟨rfl, fun ys hy => by rw [I.list_inj hy hq]; exact hx⟩, st', fun b hb => (hf b hb).1⟩⟩
  done := by
    intro X hP hw hK hc i pins s σ H E I hf st hg
    subst hP hw hK
    obtain ⟨xs, hq, hx⟩ := hg
    obtain ⟨its, rv, p, hz⟩ := I.list hq
    obtain ⟨f0, f1, f2, f3, f4, f5⟩ := hf it (by simp)
    have hl := rv.length
    exact wpAny_pyNext_list_end (I.ok.hd hc) st p.isList (by simp; omega) fun h' eb => ⟨rfl, I.turned (t' := s.toks) (fun b o hb e => eb b o hb e) f0 f1 f3 f4 f5⟩
  self := fun _ _ _ _ _ st h => wpAny_pyIter_listiter st h
theorem turn_tuple {P : Program} {w : World} {K : PySem.W.Frag} {tg : Expr} (a it : Addr) : Turn P w K tg (Itt K a) [it] it (fun i h => h.IsTupleIter it a i) where
  mem := by simp
  obj := fun i h st b hb => by
    have e : b = it := by simpa using hb
    subst e
    obtain ⟨o, e, c, d⟩ := st
    exact ⟨o, e, fun v z => by rw [d] at z; cases z⟩
  keep := fun i h h' st k => st.at fun o e => k it (by simp) o e
  item := by
    intro X hP hw hK hc i pins s σ H E I hf st hg
    subst hP hw hK
    obtain ⟨xs, x, hq, hx⟩ := hg
    obtain ⟨its, rv, p, hz⟩ := I.tuple hq
    obtain ⟨u, hu, ru⟩ := rv.get hx
    obtain ⟨f0, f1, f2, f3, f4, f5⟩ := hf it (by simp)
    refine wpAny_pyNext_tuple_item st (show s.heap.IsTuple a its.toArray from p) (x := u) (by simpa using hu) fun h' st' sb => ?_
    have I1 : Inv X pins σ H { s with heap := h' } := I.turned (t' := s.toks) (fun b o hb e => (sb.2 b hb).trans e) f0 f1 f3 f4 f5
    obtain ⟨o, e, c, d⟩ := id st'
    exact ⟨u, rfl, go_of (s := { s with heap := h' }) e c d (by decide) ⟨x, H, I1, ru, ⟨rfl, fun ys hy => by rw [I.tuple_inj hy hq]; exact hx⟩, st', fun b hb => (hf b hb).1⟩⟩
  done := by
    intro X hP hw hK hc i pins s σ H E I hf st hg
    subst hP hw hK
    obtain ⟨xs, hq, hx⟩ := hg
    obtain ⟨its, rv, p, hz⟩ := I.tuple hq
    obtain ⟨f0, f1, f2, f3, f4, f5⟩ := hf it (by simp)
    have hl := rv.length
    exact wpAny_pyNext_tuple_end (I.ok.hd hc) st (show s.heap.IsTuple a its.toArray from p) (by simp; omega) fun h' eb => ⟨rfl, I.turned (t' := s.toks) (fun b o hb e => eb b o hb e) f0 f1 f3 f4 f5⟩
  self := fun _ _ _ _ _ st h => wpAny_pyIter_tupleiter st h
theorem turn_range {P : Program} {w : World} {K : PySem.W.Frag} {tg : Expr} (it : Addr) (lo : Int) (n : Nat) : Turn P w K tg (Itr lo n) [it] it (fun i h => IsRangeIter h it (lo + (i : Nat) * 1) ((n : Int) - (i : Nat)) 1) where
  mem := by simp
  obj := fun i h st b hb => by
    have e : b = it := by simpa using hb
    subst e
    exact ⟨_, st, fun v z => by
      have z' : Data.fields _ = Data.cell v := z
      cases z'⟩
  keep := fun i h h' st k => k it (by simp) _ st
  item := by
    intro X hP hw hK hc i pins s σ H E I hf st hg
    subst hP hw hK
    obtain ⟨f0, f1, f2, f3, f4, f5⟩ := hf it (by simp)
    have W := Walks.range (prog := X.prog) (w := X.w) (I.ok.hd hc) it lo 1 n
    refine W.item i s _ _ hg st fun v h' tk hv st' kk => ?_
    obtain ⟨t, rfl⟩ := hv
    have I1 : Inv X pins σ H { s with heap := h', toks := tk } := I.turned (fun b o hb e => kk b o (by simpa using hb) e) f0 f1 f3 f4 f5
    refine ⟨_, rfl, go_of (s := { s with heap := h', toks := tk }) (n := "range_iterator") st' rfl rfl (by decide) ⟨.int (lo + i), H, I1, ⟨t, ?_⟩, ⟨rfl, rfl⟩, st', fun b hb => (hf b hb).1⟩⟩
    rw [Int.mul_one]
  done := by
    intro X hP hw hK hc i pins s σ H E I hf st hg
    subst hP hw hK
    obtain ⟨f0, f1, f2, f3, f4, f5⟩ := hf it (by simp)
    exact wpAny_pyNext_range_end (I.ok.hd hc) st (by have : n ≤ i := hg; omega) fun h' eb => ⟨rfl, I.turned (t' := s.toks) (fun b o hb e => eb b o hb e) f0 f1 f3 f4 f5⟩
  self := fun _ _ _ _ _ st h => wpAny_pyIter_rangeiter st h
end L2

namespace L2
open PySem PySem.Spec PyProof.Rows
section
variable {X : Cx} {tg : Expr}
def iList (K : PySem.W.Frag) (tl : TE) : TI := fun σ H R => tl σ H fun x H1 => ∃ a, x = .ref a ∧ (∃ xs, SqL K H1 a xs) ∧ R (Itl K a) H1
def iTup (K : PySem.W.Frag) (tl : TE) : TI := fun σ H R => tl σ H fun x H1 => ∃ a, x = .ref a ∧ (∃ xs, SqT K H1 a xs) ∧ R (Itt K a) H1
theorem pi_list {l : Expr} {tl : TE} (hl : PE X l tl) : PI X tg l (iList X.K tl) := by
  intro pins s σ H R I h
  refine thn (hl pins s σ H _ I h) fun v s1 ⟨x, H1, I1, r1, q1⟩ => ?_
  obtain ⟨a, e, ⟨xs, hq⟩, q⟩ := q1
  subst e
  cases r1
  obtain ⟨its, rv, p, hz⟩ := I1.list hq
  refine wpAny_pyIter_list p.isList ?_
  refine ⟨s1.heap.objs.size, [s1.heap.objs.size], _, _, H1, rfl, I1.kept (t' := s1.toks) fun b o e => Heap.get?_push_of_some _ e, turn_list a _, ⟨_, Heap.get?_push_size _ rfl, rfl, rfl⟩, fun b hb => ?_, q⟩
  have e : b = s1.heap.objs.size := by simpa using hb
  subst e
  exact I1.fpOk (Nat.le_refl _) (I1.hok.fresh (Nat.le_refl _))
theorem pi_tup {l : Expr} {tl : TE} (hl : PE X l tl) : PI X tg l (iTup X.K tl) := by
  intro pins s σ H R I h
  refine thn (hl pins s σ H _ I h) fun v s1 ⟨x, H1, I1, r1, q1⟩ => ?_
  obtain ⟨a, e, ⟨xs, hq⟩, q⟩ := q1
  subst e
  cases r1
  obtain ⟨its, rv, p, hz⟩ := I1.tuple hq
  refine wpAny_pyIter_tuple (show s1.heap.IsTuple a its.toArray from p) ?_
  refine ⟨s1.heap.objs.size, [s1.heap.objs.size], _, _, H1, rfl, I1.kept (t' := s1.toks) fun b o e => Heap.get?_push_of_some _ e, turn_tuple a _, ⟨_, Heap.get?_push_size _ rfl, rfl, rfl⟩, fun b hb => ?_, q⟩
  have e : b = s1.heap.objs.size := by simpa using hb
  subst e
  exact I1.fpOk (Nat.le_refl _) (I1.hok.fresh (Nat.le_refl _))
theorem range_it {pins : List (Addr × Obj)} {σ : St} {H : Hp} {s : Shared} {R : It → Hp → Prop} {E : Value → Shared → Prop} {lo hi : Int} {t u v : Tok} {tk : Nat} (I : Inv X pins σ H s) (h1 : -(2 ^ 62) ≤ lo) (h2 : lo < 2 ^ 62) (h3 : -(2 ^ 62) ≤ hi) (h4 : hi < 2 ^ 62)
    (q : R (Itr lo (hi - lo).toNat) H) : wpAny (model X.prog X.w) X.A (pyIter (.ref s.heap.objs.size)) (PIE X pins σ tg R) E { s with heap := s.heap.push { cls := .type "range", data := .fields #[.int lo t, .int hi u, .int 1 v] }, toks := tk } := by
  refine wpAny_pyIter_range (IsRange.new ..) (small_one h1 h2 h3 h4) ?_
  have I1 : Inv X pins σ H { s with heap := s.heap.push { cls := .type "range", data := .fields #[.int lo t, .int hi u, .int 1 v] }, toks := tk } := I.kept fun b o e => Heap.get?_push_of_some _ e
  refine ⟨(s.heap.push { cls := .type "range", data := .fields #[.int lo t, .int hi u, .int 1 v] }).objs.size, [(s.heap.push { cls := .type "range", data := .fields #[.int lo t, .int hi u, .int 1 v] }).objs.size], _, _, H, rfl,
    I1.kept (t' := tk) fun b o e => Heap.get?_push_of_some _ e, turn_range _ lo (hi - lo).toNat, ?_, fun b hb => ?_, q⟩
  · have e1 : lo + ((0 : Nat) : Int) * 1 = lo := by simp
    have e2 : (((hi - lo).toNat : Nat) : Int) - ((0 : Nat) : Int) = Builtin.Range.rangeSize lo hi 1 := by rw [rangeSize_one]; split <;> omega
    show IsRangeIter _ _ (lo + ((0 : Nat) : Int) * 1) ((((hi - lo).toNat : Nat) : Int) - ((0 : Nat) : Int)) 1
    rw [e1, e2]
    exact Heap.get?_push_size _ rfl
  · have e : b = (s.heap.push { cls := .type "range", data := .fields #[.int lo t, .int hi u, .int 1 v] }).objs.size := by simpa using hb
    subst e
    exact I1.fpOk (Nat.le_refl _) (I1.hok.fresh (Nat.le_refl _))
def iRng1 (ta : TA) : TI := fun σ H R => ta σ H fun vs H1 => ∃ j : Int, vs = [.int j] ∧ -(2 ^ 62) ≤ j ∧ j < 2 ^ 62 ∧ R (Itr 0 j.toNat) H1
def iRng2 (ta : TA) : TI := fun σ H R => ta σ H fun vs H1 => ∃ i j : Int, vs = [.int i, .int j] ∧ (-(2 ^ 62) ≤ i ∧ i < 2 ^ 62 ∧ -(2 ^ 62) ≤ j ∧ j < 2 ^ 62) ∧ R (Itr i (j - i).toNat) H1
theorem pi_range1 {a : Expr} {ta : TA} {p pos : Pos} (hg : Gl X "range") (hm : X.mg "range" = none) (ha : PA X [a] ta) (hs : starEach [a] X.env = [(false, eval a X.env)] := by rfl) : PI X tg (.Call (.Name "range" p) [a] [] pos) (iRng1 ta) := by
  intro pins s σ H R I h
  refine Call_ (ld_blt I hg hm boot_range (PyProof.Rows.callWith_type1 (thn (ha pos pins s σ H _ I h) fun us s1 ⟨vs, H1, I1, r1, q1⟩ => ?_) hs rfl))
  obtain ⟨j, e, q1, q2, q⟩ := q1
  subst e
  cases r1 with
  | cons r rr =>
    cases rr
    obtain ⟨t, rfl⟩ := r
    exact call_range_1 (range_it I1 (by omega) (by omega) q1 q2 (by simpa using q))
theorem pi_range2 {a b : Expr} {ta : TA} {p pos : Pos} (hg : Gl X "range") (hm : X.mg "range" = none) (ha : PA X [a, b] ta) (hs : starEach [a, b] X.env = [(false, eval a X.env), (false, eval b X.env)] := by rfl) (hs2 : starEach [b] X.env = [(false, eval b X.env)] := by rfl) :
    PI X tg (.Call (.Name "range" p) [a, b] [] pos) (iRng2 ta) := by
  intro pins s σ H R I h
  refine Call_ (ld_blt I hg hm boot_range (PyProof.Rows.callWith_type1 (thn (ha pos pins s σ H _ I h) fun us s1 ⟨vs, H1, I1, r1, q1⟩ => ?_) (by rw [hs, hs2]) (by rw [hs2]; rfl)))
  obtain ⟨i, j, e, ⟨q1, q2, q3, q4⟩, q⟩ := q1
  subst e
  cases r1 with
  | cons r rr =>
    cases rr with
    | cons r' rr =>
      cases rr
      obtain ⟨t, rfl⟩ := r
      obtain ⟨t', rfl⟩ := r'
      exact call_range_2 (range_it I1 q1 q2 q3 q4 q)

def tFor (wi : TI) (g : TG) (tb : TS) : TS := fun D σ H => wi σ H fun J H1 => ∃ W : Nat → Nat → St → Hp → Prop, (∃ m, W 0 m σ H1) ∧ ∀ i m σ H, W i m σ H →
  (J.stop i H ∧ D.nx σ H) ∨ (J.go i H ∧ ∃ N : St → Hp → Prop, (∀ σ' H', N σ' H' → ∃ m', m' < m ∧ W (i + 1) m' σ' H') ∧ ∀ x H', J.yld i H x H' → g x σ H' fun σ2 H2 => tb { D with nx := N, ct := N, bk := D.nx } σ2 H2)
def pinsAt (fp : List Addr) (h : Heap) : List (Addr × Obj) := fp.filterMap fun b => (h.get? b).map fun o => (b, o)
theorem mem_pinsAt {fp : List Addr} {h : Heap} {b : Addr} {o : Obj} (hb : b ∈ fp) (e : h.get? b = some o) : (b, o) ∈ pinsAt fp h := List.mem_filterMap.mpr ⟨b, hb, by rw [e]; rfl⟩
theorem of_pinsAt {fp : List Addr} {h : Heap} {p : Addr × Obj} (hp : p ∈ pinsAt fp h) : p.1 ∈ fp ∧ h.get? p.1 = some p.2 := by
  obtain ⟨b, hb, e⟩ := List.mem_filterMap.mp hp
  cases q : h.get? b with
  | none => rw [q] at e; cases e
  | some o =>
    rw [q] at e
    have e' : (b, o) = p := Option.some.inj e
    subst e'
    exact ⟨hb, q⟩
theorem Inv.pinned {pins : List (Addr × Obj)} {σ : St} {H : Hp} {s : Shared} {fp : List Addr} (I : Inv X pins σ H s) (hf : ∀ b ∈ fp, FpOk X pins H b) (ho : ∀ b ∈ fp, ∃ o, s.heap.get? b = some o ∧ ∀ v, o.data ≠ .cell v) : Inv X (pins ++ pinsAt fp s.heap) σ H s :=
  I.pins_of fun p hp => (List.mem_append.mp hp).elim (fun z => I.pin p (List.mem_append_right _ z)) fun z => by
    obtain ⟨hb, e⟩ := of_pinsAt z
    obtain ⟨f0, f1, f2, _⟩ := hf p.1 hb
    obtain ⟨o, e', d⟩ := ho p.1 hb
    rw [e] at e'; cases e'
    exact ⟨e, f0, f1, f2, d⟩
theorem Inv.unpinned {pins pl : List (Addr × Obj)} {σ : St} {H : Hp} {s : Shared} (I : Inv X (pins ++ pl) σ H s) : Inv X pins σ H s := I.pins_of fun p hp => I.pin p (List.mem_append_right _ (List.mem_append_left _ hp))
theorem ps_for {iter : Expr} {body : List Stmt} {wi : TI} {g : TG} {tb : TS} {pos : Pos} (hp : PassesOwn (model X.prog X.w) X.A X.env X.xe) (hc : X.calm = true) (hi : PI X tg iter wi) (hg : PG X tg g) (hb : PSs X body tb)
    (hs : ∀ x, foldedSetIterable iter X.env x = pure x := by intro _; rfl) : PS X (.For tg iter body [] pos) (tFor wi g tb) := by
  intro pins s σ H D I h
  refine wpAny_For (thn (hi pins s σ H _ I h) fun v s1 h1 => thn h1 fun itv s2 h2 => ?_) hs
  obtain ⟨it, fp, tn, J, H2, e, I2, T, st2, f2, W, ⟨m0, w0⟩, turn⟩ := h2
  subst e
  -- what stays true of the iterator's objects through the loop
  have stat : ∀ {H' : Hp}, (∀ b ∈ fp, H' b = none) → ∀ b ∈ fp, FpOk X pins H' b := fun hn b hb => ⟨hn b hb, (f2 b hb).2⟩
  refine codeAny_forLoop_any (fun n s' => ∃ i σ' H', Inv X pins σ' H' s' ∧ tn i s'.heap ∧ (∀ b ∈ fp, H' b = none) ∧ W i n σ' H') ?_ m0 ⟨0, σ, H2, I2, st2, fun b hb => (f2 b hb).1, w0⟩
  rintro n s3 ⟨i, σ3, H3, I3, st3, fr3, w3⟩
  rcases turn i n σ3 H3 w3 with ⟨stop, qn⟩ | ⟨go, N, hN, step⟩
  · refine wpAny_passesOwn hp (thn (T.done X rfl rfl rfl hc i pins s3 σ3 H3 X.xe I3 (stat fr3) st3 stop) fun r s4 ⟨hr, I4⟩ => ?_)
    subst hr
    exact wpAny_execs_nil ⟨σ3, H3, I4, qn⟩
  · refine wpAny_passesOwn hp (thn (T.item X rfl rfl rfl hc i pins s3 σ3 H3 X.xe I3 (stat fr3) st3 go) fun r s4 ⟨u, hr, h4⟩ => ?_)
    subst hr
    refine wpAny_passesOwn hp (thn h4 fun _ s5 ⟨x, H5, I5, r5, y5, st5, fr5⟩ => ?_)
    have I5' := I5.pinned (stat fr5) (T.obj _ _ st5)
    refine wpAny_passesOwn hp (thn (hg _ s5 σ3 H5 x u _ I5' r5 (step x H5 y5)) fun _ s6 ⟨σ6, H6, I6, q6⟩ => ?_)
    refine wpAny_passesOwn hp (thn (hb _ s6 σ6 H6 _ I6 q6) fun f s7 q7 => ?_)
    have again : ∀ {σ7 : St} {H7 : Hp}, Inv X (pins ++ pinsAt fp s5.heap) σ7 H7 s7 → N σ7 H7 → ∃ m, m < n ∧ ∃ i σ' H', Inv X pins σ' H' s7 ∧ tn i s7.heap ∧ (∀ b ∈ fp, H' b = none) ∧ W i m σ' H' := fun {σ7 H7} I7 n7 => by
      obtain ⟨m', hm, w7⟩ := hN σ7 H7 n7
      refine ⟨m', hm, i + 1, σ7, H7, I7.unpinned, T.keep _ _ _ st5 fun b hb o e => (I7.pin (b, o) (List.mem_append_right _ (List.mem_append_right _ (mem_pinsAt hb e)))).1, fun b hb => ?_, w7⟩
      obtain ⟨o, e, d⟩ := T.obj _ _ st5 b hb
      exact (I7.pin (b, o) (List.mem_append_right _ (List.mem_append_right _ (mem_pinsAt hb e)))).2.1
    cases f with
    | next => obtain ⟨σ7, H7, I7, n7⟩ := q7; exact again I7 n7
    | cont => obtain ⟨σ7, H7, I7, n7⟩ := q7; exact again I7 n7
    | brk => obtain ⟨σ7, H7, I7, q7⟩ := q7; exact ⟨σ7, H7, I7.unpinned, q7⟩
    | ret v => obtain ⟨x7, σ7, H7, I7, r7, q7⟩ := q7; exact ⟨x7, σ7, H7, I7.unpinned, r7, q7⟩
end

theorem for_list {K : PySem.W.Frag} {a : Addr} {xs : List V} {g : TG} {tb : TS} {D : Ends} {σ : St} {H : Hp} (Pv : Nat → St → Hp → Prop) (h0 : Pv 0 σ H) (hl : ∀ i σ H, i ≤ xs.length → Pv i σ H → SqL K H a xs)
    (hs : ∀ i x σ H, xs[i]? = some x → Pv i σ H → g x σ H fun σ2 H2 => tb { D with nx := Pv (i + 1), ct := Pv (i + 1), bk := D.nx } σ2 H2) (hd : ∀ σ H, Pv xs.length σ H → D.nx σ H) :
    ∃ W : Nat → Nat → St → Hp → Prop, (∃ m, W 0 m σ H) ∧ ∀ i m σ H, W i m σ H →
      ((Itl K a).stop i H ∧ D.nx σ H) ∨ ((Itl K a).go i H ∧ ∃ N : St → Hp → Prop, (∀ σ' H', N σ' H' → ∃ m', m' < m ∧ W (i + 1) m' σ' H') ∧ ∀ x H', (Itl K a).yld i H x H' → g x σ H' fun σ2 H2 => tb { D with nx := N, ct := N, bk := D.nx } σ2 H2) := by
  refine ⟨fun i m σ H => m = xs.length - i ∧ i ≤ xs.length ∧ Pv i σ H, ⟨xs.length, by simp, Nat.zero_le _, h0⟩, ?_⟩
  rintro i m σ H ⟨rfl, hi, p⟩
  have q := hl i σ H hi p
  by_cases hlt : i < xs.length
  · refine .inr ⟨⟨xs, xs[i], q, by simp [hlt]⟩, Pv (i + 1), fun σ' H' p' => ⟨xs.length - (i + 1), by omega, rfl, hlt, p'⟩, fun x H' y => ?_⟩
    obtain ⟨e, y⟩ := y
    subst e
    exact hs i x σ _ (y xs q) p
  · have e : i = xs.length := by omega
    subst e
    exact .inl ⟨⟨xs, q, Nat.le_refl _⟩, hd σ H p⟩
theorem for_range {lo : Int} {n : Nat} {g : TG} {tb : TS} {D : Ends} {σ : St} {H : Hp} (Pv : Nat → St → Hp → Prop) (h0 : Pv 0 σ H)
    (hs : ∀ i σ H, i < n → Pv i σ H → g (.int (lo + i)) σ H fun σ2 H2 => tb { D with nx := Pv (i + 1), ct := Pv (i + 1), bk := D.nx } σ2 H2) (hd : ∀ σ H, Pv n σ H → D.nx σ H) :
    ∃ W : Nat → Nat → St → Hp → Prop, (∃ m, W 0 m σ H) ∧ ∀ i m σ H, W i m σ H →
      ((Itr lo n).stop i H ∧ D.nx σ H) ∨ ((Itr lo n).go i H ∧ ∃ N : St → Hp → Prop, (∀ σ' H', N σ' H' → ∃ m', m' < m ∧ W (i + 1) m' σ' H') ∧ ∀ x H', (Itr lo n).yld i H x H' → g x σ H' fun σ2 H2 => tb { D with nx := N, ct := N, bk := D.nx } σ2 H2) := by
  refine ⟨fun i m σ H => m = n - i ∧ i ≤ n ∧ Pv i σ H, ⟨n, by simp, Nat.zero_le _, h0⟩, ?_⟩
  rintro i m σ H ⟨rfl, hi, p⟩
  by_cases hlt : i < n
  · refine .inr ⟨hlt, Pv (i + 1), fun σ' H' p' => ⟨n - (i + 1), by omega, rfl, hlt, p'⟩, fun x H' y => ?_⟩
    obtain ⟨e, y⟩ := y
    subst e y
    exact hs i σ _ hlt p
  · have e : i = n := by omega
    subst e
    exact .inl ⟨Nat.le_refl _, hd σ H p⟩
end L2

namespace L2
open PySem PySem.Spec PyProof.Rows

abbrev R2 := V → V → Hp → VK → Prop
def OpR (X : Cx) (f : Value → Value → Sem Value) (r : R2) : Prop :=
  ∀ (pins : List (Addr × Obj)) (s : Shared) (σ : St) (H : Hp) (x y : V) (v u : Value) (Q : VK), Inv X pins σ H s → RelV x v → RelV y u → r x y H Q →
    wpAny (model X.prog X.w) X.A (f v u) (EP X pins σ Q) X.xe s
def UnR (X : Cx) (f : Value → Sem Value) (r : V → Hp → VK → Prop) : Prop :=
  ∀ (pins : List (Addr × Obj)) (s : Shared) (σ : St) (H : Hp) (x : V) (v : Value) (Q : VK), Inv X pins σ H s → RelV x v → r x H Q →
    wpAny (model X.prog X.w) X.A (f v) (EP X pins σ Q) X.xe s
def CallR (X : Cx) (f : Value) (r : List V → Hp → VK → Prop) : Prop :=
  ∀ (pins : List (Addr × Obj)) (s : Shared) (σ : St) (H : Hp) (xs : List V) (us : List Value) (Q : VK), Inv X pins σ H s → Vals xs us → r xs H Q →
    wpAny (model X.prog X.w) X.A (call f us) (EP X pins σ Q) X.xe s
def tOp (r : R2) (ta tb : TE) : TE := fun σ H Q => ta σ H fun x H1 => tb σ H1 fun y H2 => r x y H2 Q
def tUn (r : V → Hp → VK → Prop) (ta : TE) : TE := fun σ H Q => ta σ H fun x H1 => r x H1 Q
def rI (C : Int → Int → Prop) (g : Int → Int → V) : R2 := fun x y H Q => ∃ i j, x = .int i ∧ y = .int j ∧ C i j ∧ Q (g i j) H
def rI0 (g : Int → Int → V) : R2 := fun x y H Q => ∃ i j, x = .int i ∧ y = .int j ∧ Q (g i j) H
def rU (g : Int → V) : V → Hp → VK → Prop := fun x H Q => ∃ i, x = .int i ∧ Q (g i) H

section
variable {X : Cx} {a b c : Expr} {ta tb tc : TE} {pos : Pos}

theorem binT (ha : PE X a ta) (hb : PE X b tb) {pins : List (Addr × Obj)} {s : Shared} {σ : St} {H : Hp} {R : V → V → Hp → Prop} (I : Inv X pins σ H s)
    (h : ta σ H fun x H1 => tb σ H1 fun y H2 => R x y H2) {Q : Value → Shared → Prop} {f : Value → Value → Sem Value}
    (hf : ∀ v u s2 x y H2, Inv X pins σ H2 s2 → RelV x v → RelV y u → R x y H2 → wpAny (model X.prog X.w) X.A (f v u) Q X.xe s2) :
    wpAny (model X.prog X.w) X.A (eval a X.env) (fun v s₁ => wpAny (model X.prog X.w) X.A (eval b X.env) (fun u s₂ => wpAny (model X.prog X.w) X.A (f v u) Q X.xe s₂) X.xe s₁) X.xe s := by
  refine thn (ha pins s σ H _ I h) fun v s1 ⟨x, H1, I1, r1, q1⟩ => ?_
  refine thn (hb pins s1 σ H1 _ I1 q1) fun u s2 ⟨y, H2, I2, r2, q2⟩ => ?_
  exact hf v u s2 x y H2 I2 r1 r2 q2

theorem pe_op {op : Operator} {r : R2} (ho : OpR X (binaryOp op) r) (ha : PE X a ta) (hb : PE X b tb) : PE X (.BinOp a op b pos) (tOp r ta tb) := by
  intro pins s σ H Q I h
  exact wpAny_BinOp (binT ha hb I h fun v u s2 x y H2 I2 rx ry q => ho pins s2 σ H2 x y v u Q I2 rx ry q)
theorem pe_un {op : UnaryOp} {r : V → Hp → VK → Prop} (ho : UnR X (unaryOp op) r) (ha : PE X a ta) : PE X (.UnaryOp op a pos) (tUn r ta) := by
  intro pins s σ H Q I h
  exact UnaryOp_ (thn (ha pins s σ H _ I h) fun v s1 ⟨x, H1, I1, r1, q1⟩ => ho pins s1 σ H1 x v Q I1 r1 q1)
theorem opI {f : Value → Value → Sem Value} {C : Int → Int → Prop} {g : Int → Int → Int}
    (rule : ∀ (i j : Int) (t u : Tok) (s : Shared) (Q : Value → Shared → Prop) (E : Value → Shared → Prop), C i j → Q (.int (g i j) s.toks) { s with toks := s.toks + 1 } → wpAny (model X.prog X.w) X.A (f (.int i t) (.int j u)) Q E s) :
    OpR X f (rI C fun i j => .int (g i j)) := by
  intro pins s σ H x y v u Q I rx ry h
  obtain ⟨i, j, rfl, rfl, hc, q⟩ := h
  obtain ⟨t, rfl⟩ := rx
  obtain ⟨t', rfl⟩ := ry
  exact rule i j t t' s _ _ hc ⟨.int (g i j), H, I.tok _, ⟨_, rfl⟩, q⟩
theorem opI0 {f : Value → Value → Sem Value} {g : Int → Int → Int}
    (rule : ∀ (i j : Int) (t u : Tok) (s : Shared) (Q : Value → Shared → Prop) (E : Value → Shared → Prop), Q (.int (g i j) s.toks) { s with toks := s.toks + 1 } → wpAny (model X.prog X.w) X.A (f (.int i t) (.int j u)) Q E s) :
    OpR X f (rI0 fun i j => .int (g i j)) := by
  intro pins s σ H x y v u Q I rx ry h
  obtain ⟨i, j, rfl, rfl, q⟩ := h
  obtain ⟨t, rfl⟩ := rx
  obtain ⟨t', rfl⟩ := ry
  exact rule i j t t' s _ _ ⟨.int (g i j), H, I.tok _, ⟨_, rfl⟩, q⟩
theorem opB0 {f : Value → Value → Sem Value} {g : Int → Int → Bool}
    (rule : ∀ (i j : Int) (t u : Tok) (s : Shared) (Q : Value → Shared → Prop) (E : Value → Shared → Prop), Q (.bool (g i j)) s → wpAny (model X.prog X.w) X.A (f (.int i t) (.int j u)) Q E s) :
    OpR X f (rI0 fun i j => .bl (g i j)) := by
  intro pins s σ H x y v u Q I rx ry h
  obtain ⟨i, j, rfl, rfl, q⟩ := h
  obtain ⟨t, rfl⟩ := rx
  obtain ⟨t', rfl⟩ := ry
  exact rule i j t t' s _ _ ⟨.bl (g i j), H, I, rfl, q⟩

def CDiv (i j : Int) : Prop := 0 < j ∧ j < 1073741824
def CMul (i j : Int) : Prop := (-(2 ^ 64) < i ∧ i < 2 ^ 64) ∨ (-(2 ^ 64) < j ∧ j < 2 ^ 64)
theorem CMul.ok {i j : Int} (h : CMul i j) : IntMulOk i j := by
  rcases h with ⟨h1, h2⟩ | ⟨h1, h2⟩
  · exact .of_left (intBits_le_64 h1 h2)
  · exact .of_right (intBits_le_64 h1 h2)
theorem two_pow_nn (k : Nat) : (0 : Int) ≤ 2 ^ k := by
  rw [two_pow_cast]
  exact Int.natCast_nonneg _

theorem op_add : OpR X (binaryOp .Add) (rI0 fun i j => .int (i + j)) := opI0 fun _ _ _ _ _ _ _ q => add_int q
theorem op_sub : OpR X (binaryOp .Sub) (rI0 fun i j => .int (i - j)) := opI0 fun _ _ _ _ _ _ _ q => sub_int q
theorem op_mul : OpR X (binaryOp .Mult) (rI CMul fun i j => .int (i * j)) := opI fun _ _ _ _ _ _ _ hc q => mul_int q hc.ok
theorem op_fdiv : OpR X (binaryOp .FloorDiv) (rI CDiv fun i j => .int (i / j)) := opI fun i j _ _ _ _ _ hc q => by
  have h1 : (0 : Int) < j := hc.1
  have h2 : j < 1073741824 := hc.2
  exact floordiv_int (by omega) (by rw [Int.fdiv_eq_ediv_of_nonneg i (by omega)]; exact q) (.inl (PyProof.noPylong_small (by omega)))
theorem op_mod : OpR X (binaryOp .Mod) (rI (fun _ j => 0 < j) fun i j => .int (i % j)) := opI fun i j _ _ _ _ _ hc q => by
  have h1 : (0 : Int) < j := hc
  exact mod_int' (by omega) (by rw [Int.fmod_eq_emod_of_nonneg i (by omega)]; exact q)
theorem op_shr : OpR X (binaryOp .RShift) (rI (fun _ j => 0 ≤ j) fun i j => .int (i / 2 ^ j.toNat)) := opI fun i j _ _ _ _ _ hc q =>
  rshift_int hc (by rw [Int.fdiv_eq_ediv_of_nonneg i (two_pow_nn _)]; exact q)
theorem op_and : OpR X (binaryOp .BitAnd) (rI0 fun i j => .int (Builtin.bitAnd i j)) := opI0 fun _ _ _ _ _ _ _ q => and_int q
theorem unI {f : Value → Sem Value} {g : Int → Int}
    (rule : ∀ (i : Int) (t : Tok) (s : Shared) (Q : Value → Shared → Prop) (E : Value → Shared → Prop), Q (.int (g i) s.toks) { s with toks := s.toks + 1 } → wpAny (model X.prog X.w) X.A (f (.int i t)) Q E s) :
    UnR X f (rU fun i => .int (g i)) := by
  intro pins s σ H x v Q I rx h
  obtain ⟨i, rfl, q⟩ := h
  obtain ⟨t, rfl⟩ := rx
  exact rule i t s _ _ ⟨.int (g i), H, I.tok _, ⟨_, rfl⟩, q⟩
theorem un_neg : UnR X (unaryOp .USub) (rU fun i => .int (-i)) := unI fun _ _ _ _ _ q => neg_int q
end

def scal : V → V → Bool
  | .non, .non => true | .non, .int _ => true | .int _, .non => true | .non, .bl _ => true | .bl _, .non => true | .non, .str _ => true | .str _, .non => true
  | .int _, .int _ => true | .bl _, .bl _ => true | .str _, .str _ => true | .byt _, .byt _ => true
  | .int _, .str _ => true | .str _, .int _ => true | .bl _, .str _ => true | .str _, .bl _ => true
  | _, _ => false
def rEq : R2 := fun x y H Q => scal x y = true ∧ Q (.bl (decide (x = y))) H
def rNe : R2 := fun x y H Q => scal x y = true ∧ Q (.bl (!decide (x = y))) H

theorem dec_int {i j : Int} : decide (V.int i = V.int j) = (i == j) := by
  rw [Bool.eq_iff_iff]
  simp
theorem dec_bl {i j : Bool} : decide (V.bl i = V.bl j) = (i == j) := by
  rw [Bool.eq_iff_iff]
  simp
theorem dec_str {i j : Str} : decide (V.str i = V.str j) = (i == j) := by
  rw [Bool.eq_iff_iff]
  simp
theorem dec_byt {i j : Array UInt8} : decide (V.byt i = V.byt j) = (i.toList == j.toList) := by
  rw [Bool.eq_iff_iff]
  cases i
  cases j
  simp

section
variable {X : Cx} {a b c : Expr} {ta tb tc : TE} {pos : Pos}
theorem fin_bl {pins : List (Addr × Obj)} {σ : St} {H : Hp} {s : Shared} {Q : VK} {k k' : Bool} (I : Inv X pins σ H s) (q : Q (.bl k) H) (e : k = k') : EP X pins σ Q (.bool k') s := by
  subst e
  exact ⟨.bl k, H, I, rfl, q⟩
theorem op_eq : OpR X (compareOp .Eq) rEq := by
  intro pins s σ H x y v u Q I rx ry h
  obtain ⟨hs, q⟩ := h
  cases x with
  | non =>
    cases rx
    cases y with
    | non => cases ry; exact PySem.EqNone.eq_none_none (fin_bl I q (by simp))
    | bl j => cases ry; exact PySem.EqNone.eq_none_bool (fin_bl I q (by simp))
    | int j => obtain ⟨t', rfl⟩ := ry; exact PySem.EqNone.eq_none_int (fin_bl I q (by simp))
    | str j => obtain ⟨t', rfl⟩ := ry; exact PySem.EqNone.eq_none_str (fin_bl I q (by simp))
    | _ => exact absurd (show false = true from hs) Bool.false_ne_true
  | bl i =>
    cases rx
    cases y with
    | non => cases ry; exact PySem.EqNone.eq_bool_none (fin_bl I q (by simp))
    | bl j => cases ry; exact eq_bool (fin_bl I q dec_bl)
    | str j => obtain ⟨t', rfl⟩ := ry; exact PySem.EqMixed.eq_bool_str (fin_bl I q (by simp))
    | _ => exact absurd (show false = true from hs) Bool.false_ne_true
  | int i =>
    obtain ⟨t, rfl⟩ := rx
    cases y with
    | non => cases ry; exact PySem.EqNone.eq_int_none (fin_bl I q (by simp))
    | int j => obtain ⟨t', rfl⟩ := ry; exact eq_int (fin_bl I q dec_int)
    | str j => obtain ⟨t', rfl⟩ := ry; exact PySem.EqMixed.eq_int_str (fin_bl I q (by simp))
    | _ => exact absurd (show false = true from hs) Bool.false_ne_true
  | str i =>
    obtain ⟨t, rfl⟩ := rx
    cases y with
    | non => cases ry; exact PySem.EqNone.eq_str_none (fin_bl I q (by simp))
    | bl j => cases ry; exact PySem.EqMixed.eq_str_bool (fin_bl I q (by simp))
    | int j => obtain ⟨t', rfl⟩ := ry; exact PySem.EqMixed.eq_str_int (fin_bl I q (by simp))
    | str j => obtain ⟨t', rfl⟩ := ry; exact eq_str (fin_bl I q dec_str)
    | _ => exact absurd (show false = true from hs) Bool.false_ne_true
  | byt i =>
    obtain ⟨t, rfl⟩ := rx
    cases y with
    | byt j => obtain ⟨t', rfl⟩ := ry; exact PySem.W.eq_bytes (fin_bl I q dec_byt)
    | _ => exact absurd (show false = true from hs) Bool.false_ne_true
  | _ => cases y <;> exact absurd (show false = true from hs) Bool.false_ne_true
theorem op_ne : OpR X (compareOp .NotEq) rNe := by
  intro pins s σ H x y v u Q I rx ry h
  obtain ⟨hs, q⟩ := h
  cases x with
  | non =>
    cases rx
    cases y with
    | non => cases ry; exact PySem.EqNone.ne_none_none (fin_bl I q (by simp))
    | bl j => cases ry; exact PySem.EqNone.ne_none_bool (fin_bl I q (by simp))
    | int j => obtain ⟨t', rfl⟩ := ry; exact PySem.EqNone.ne_none_int (fin_bl I q (by simp))
    | str j => obtain ⟨t', rfl⟩ := ry; exact PySem.EqNone.ne_none_str (fin_bl I q (by simp))
    | _ => exact absurd (show false = true from hs) Bool.false_ne_true
  | bl i =>
    cases rx
    cases y with
    | non => cases ry; exact PySem.EqNone.ne_bool_none (fin_bl I q (by simp))
    | bl j => cases ry; exact ne_bool (fin_bl I q (congrArg not dec_bl))
    | str j => obtain ⟨t', rfl⟩ := ry; exact PySem.EqMixed.ne_bool_str (fin_bl I q (by simp))
    | _ => exact absurd (show false = true from hs) Bool.false_ne_true
  | int i =>
    obtain ⟨t, rfl⟩ := rx
    cases y with
    | non => cases ry; exact PySem.EqNone.ne_int_none (fin_bl I q (by simp))
    | int j => obtain ⟨t', rfl⟩ := ry; exact ne_int (fin_bl I q (congrArg not dec_int))
    | str j => obtain ⟨t', rfl⟩ := ry; exact PySem.EqMixed.ne_int_str (fin_bl I q (by simp))
    | _ => exact absurd (show false = true from hs) Bool.false_ne_true
  | str i =>
    obtain ⟨t, rfl⟩ := rx
    cases y with
    | non => cases ry; exact PySem.EqNone.ne_str_none (fin_bl I q (by simp))
    | bl j => cases ry; exact PySem.EqMixed.ne_str_bool (fin_bl I q (by simp))
    | int j => obtain ⟨t', rfl⟩ := ry; exact PySem.EqMixed.ne_str_int (fin_bl I q (by simp))
    | str j => obtain ⟨t', rfl⟩ := ry; exact ne_str (fin_bl I q (congrArg not dec_str))
    | _ => exact absurd (show false = true from hs) Bool.false_ne_true
  | byt i =>
    obtain ⟨t, rfl⟩ := rx
    cases y with
    | byt j => obtain ⟨t', rfl⟩ := ry; exact PySem.W.ne_bytes (fin_bl I q (congrArg not dec_byt))
    | _ => exact absurd (show false = true from hs) Bool.false_ne_true
  | _ => cases y <;> exact absurd (show false = true from hs) Bool.false_ne_true

theorem op_lt : OpR X (compareOp .Lt) (rI0 fun i j => .bl (decide (i < j))) := opB0 fun _ _ _ _ _ _ _ q => lt_int q
theorem op_le : OpR X (compareOp .LtE) (rI0 fun i j => .bl (decide (i ≤ j))) := opB0 fun _ _ _ _ _ _ _ q => le_int q
theorem op_gt : OpR X (compareOp .Gt) (rI0 fun i j => .bl (decide (j < i))) := opB0 fun _ _ _ _ _ _ _ q => gt_int q
theorem op_ge : OpR X (compareOp .GtE) (rI0 fun i j => .bl (decide (j ≤ i))) := opB0 fun _ _ _ _ _ _ _ q => ge_int q
theorem nomark (b : Expr) {op : CmpOp} (h : op ≠ .In := by decide) (h2 : op ≠ .NotIn := by decide) : behindInMarks op b = false := by
  have e1 : (op == CmpOp.In) = false := by cases op <;> first | rfl | exact absurd rfl h
  have e2 : (op == CmpOp.NotIn) = false := by cases op <;> first | rfl | exact absurd rfl h2
  cases b <;> simp [behindInMarks, e1, e2]
theorem pe_cmpR {op : CmpOp} {r : R2} (ho : OpR X (compareOp op) r) (ha : PE X a ta) (hb : PE X b tb) (hm : behindInMarks op b = false) : PE X (.Compare a [op] [b] pos) (tOp r ta tb) := by
  intro pins s σ H Q I h
  exact wpAny_Compare1 (binT ha hb I h fun v u s2 x y H2 I2 rx ry q => ho pins s2 σ H2 x y v u Q I2 rx ry q) hm
def tTest (t : TE) : TT := fun σ H Q => t σ H fun x H' => ∃ k, x = .bl k ∧ Q k H'
theorem pt_cmpR {op : CmpOp} {r : R2} (ho : OpR X (compareOp op) r) (ha : PE X a ta) (hb : PE X b tb) (hm : behindInMarks op b = false) : PT X (.Compare a [op] [b] pos) (tTest (tOp r ta tb)) := by
  intro pins s σ H Q I h
  refine wpAny_isTrue_Compare1 (thn (ha pins s σ H _ I h) fun v s1 ⟨x, H1, I1, r1, q1⟩ => thn (hb pins s1 σ H1 _ I1 q1) fun u s2 ⟨y, H2, I2, r2, q2⟩ =>
    thn (ho pins s2 σ H2 x y v u _ I2 r1 r2 q2) fun c s3 ⟨z, H3, I3, r3, k, e, q3⟩ => ?_) hm
  subst e
  cases r3
  exact wpAny_truthy_bool ⟨H3, I3, q3⟩
def tChain (r r' : R2) (ta tb tc : TE) : TE := fun σ H Q => ta σ H fun x H1 => tb σ H1 fun y H2 => r x y H2 fun z H3 => ∃ k, z = .bl k ∧
  (if k = true then tc σ H3 fun w' H4 => r' y w' H4 Q else Q (.bl false) H3)
theorem pt_chain {op op' : CmpOp} {r r' : R2} (ho : OpR X (compareOp op) r) (ho' : OpR X (compareOp op') r') (ha : PE X a ta) (hb : PE X b tb) (hc : PE X c tc)
    (hm : lastMarks [op, op'] [b, c] = false := by with_unfolding_all rfl) : PT X (.Compare a [op, op'] [b, c] pos) (tTest (tChain r r' ta tb tc)) := by
  intro pins s σ H Q I h
  refine isTrue_chain (thn (ha pins s σ H _ I h) fun v s1 ⟨x, H1, I1, r1, q1⟩ => test_link (thn (hb pins s1 σ H1 _ I1 q1) fun u s2 ⟨y, H2, I2, r2, q2⟩ =>
    thn (ho pins s2 σ H2 x y v u _ I2 r1 r2 q2) fun d s3 ⟨z, H3, I3, r3, k, e, q3⟩ => ?_)) hm
  subst e
  cases r3
  refine wpAny_truthy_bool ?_
  cases k with
  | false =>
    obtain ⟨k', e', q'⟩ := q3
    cases e'
    exact ite_ff ⟨H3, I3, q'⟩
  | true =>
    refine ite_tt (test_last (thn (hc pins s3 σ H3 _ I3 q3) fun w' s4 ⟨z', H4, I4, r4, q4⟩ => thn (ho' pins s4 σ H4 y z' u w' _ I4 r2 r4 q4) fun d' s5 ⟨z2, H5, I5, r5, k2, e2, q5⟩ => ?_))
    subst e2
    cases r5
    exact wpAny_truthy_bool ⟨H5, I5, q5⟩

theorem line63 : (sizeLine : Nat) < 2 ^ 63 := by rw [sizeLine_eq]; decide
theorem vals1 {x : V} {us : List Value} (r : Vals [x] us) : ∃ u, us = [u] ∧ RelV x u := by
  cases r with
  | cons r1 r2 => cases r2; exact ⟨_, rfl, r1⟩
theorem vals2 {x y : V} {us : List Value} (r : Vals [x, y] us) : ∃ u w', us = [u, w'] ∧ RelV x u ∧ RelV y w' := by
  cases r with
  | cons r1 r2 =>
    cases r2 with
    | cons r3 r4 => cases r4; exact ⟨_, _, rfl, r1, r3⟩
theorem call_max2 (hc : X.calm = true) : CallR X (.builtin "max") (fun xs H Q => ∃ i j, xs = [.int i, .int j] ∧ Q (.int (if j > i then j else i)) H) := by
  intro pins s σ H xs us Q I r h
  obtain ⟨i, j, rfl, q⟩ := h
  obtain ⟨u, w', rfl, ⟨t, rfl⟩, ⟨t', rfl⟩⟩ := vals2 r
  refine max_two_ints (I.ok.hd hc) fun h' tk k => ⟨_, H, I.kept k, ?_, q⟩
  by_cases hj : j > i
  · rw [if_pos hj, if_pos hj]; exact ⟨_, rfl⟩
  · rw [if_neg hj, if_neg hj]; exact ⟨_, rfl⟩
theorem call_min2 (hc : X.calm = true) : CallR X (.builtin "min") (fun xs H Q => ∃ i j, xs = [.int i, .int j] ∧ Q (.int (if j < i then j else i)) H) := by
  intro pins s σ H xs us Q I r h
  obtain ⟨i, j, rfl, q⟩ := h
  obtain ⟨u, w', rfl, ⟨t, rfl⟩, ⟨t', rfl⟩⟩ := vals2 r
  refine min_two_ints (I.ok.hd hc) fun h' tk k => ⟨_, H, I.kept k, ?_, q⟩
  by_cases hj : j < i
  · rw [if_pos hj, if_pos hj]; exact ⟨_, rfl⟩
  · rw [if_neg hj, if_neg hj]; exact ⟨_, rfl⟩
theorem call_int1 : CallR X (.type "int") (fun xs H Q => (∃ i, xs = [.int i] ∧ Q (.int i) H) ∨ ∃ k, xs = [.bl k] ∧ Q (.int (if k then 1 else 0)) H) := by
  intro pins s σ H xs us Q I r h
  rcases h with ⟨i, rfl, q⟩ | ⟨k, rfl, q⟩
  · obtain ⟨u, rfl, t, rfl⟩ := vals1 r
    exact call_int_int ⟨.int i, H, I, ⟨_, rfl⟩, q⟩
  · obtain ⟨u, rfl, r1⟩ := vals1 r
    cases r1
    exact call_int_bool ⟨.int (if k then 1 else 0), H, I.tok _, ⟨_, rfl⟩, q⟩
end
end L2

namespace L2
open PySem PySem.Spec PyProof.Rows

structure ObjM (h : Heap) (x dx C : Addr) (mA : Str → Option Value) : Prop where
  obj : h.get? x = some (PySem.W.instObj C dx)
  ns : h.Ns1 dx mA
  ne : dx ≠ x

theorem lookIn_ns {h : Heap} {dx : Addr} {mA : Str → Option Value} (n : h.Ns1 dx mA) : ∃ od, h.get? dx = some od ∧ ∀ name, PySem.W.lookIn name od = some (mA name) := by
  obtain ⟨o, es, ep, ho, hd, hk, _, hm⟩ := n
  refine ⟨o, ho, fun name => ?_⟩
  have e := hm name
  unfold nsFind findBy at e
  rw [← Array.find?_toList] at e
  unfold PySem.W.lookIn
  rw [hd]
  dsimp only
  split
  · rename_i y q
    rw [q] at e
    exact congrArg some e
  · rename_i q
    rw [q] at e
    have a : es.toList.any (·.refKey) = false := by
      rw [List.any_eq_false]
      intro y hy
      obtain ⟨z, t, hkey⟩ := hk y (Array.mem_toList_iff.mp hy)
      simp [DictEntry.refKey, hkey]
    have a' : ¬ es.toList.any (·.refKey) = true := by rw [a]; exact Bool.false_ne_true
    rw [if_neg a']
    exact congrArg some e

theorem ObjM.look {h : Heap} {x dx C : Addr} {mA : Str → Option Value} (I : ObjM h x dx C mA) : ∃ od, PySem.W.InstAt h x (PySem.W.instObj C dx) C (some od) ∧ ∀ name, PySem.W.lookIn name od = some (mA name) :=
  let ⟨od, ho, hl⟩ := lookIn_ns I.ns
  ⟨od, ⟨I.obj, rfl, rfl, ho⟩, hl⟩

section
variable {prog : Program} {w : World} {A : Around} {E : Value → Shared → Prop} {s : Shared} {K : PySem.W.Frag} {x dx C f : Addr} {mA : Str → Option Value} {name : Str} {v : Value}

theorem get_map {expr : Bool} {Q : Value → Shared → Prop} (X : K.In s.heap) (I : ObjM s.heap x dx C mA) (hg : PySem.W.plainGet K C name = true) (hh : PySem.W.hasDictIn K C = true)
    (ha : PySem.W.findIn K (.ref C) name = some none) (hv : mA name = some v) (hv' : PySem.W.handedIn v = true) (h : Q v { s with toks := s.toks + 1 }) :
    wpAny (model prog w) A (getAttr (.ref x) name expr) Q E s := by
  obtain ⟨od, J, hl⟩ := I.look
  exact PySem.W.get_value X J (PySem.W.plainGet_of hg).1 (PySem.W.findObj_own hh ha rfl (by rw [hl, hv])) hv' h

theorem get_meth {pl : Sem Bool} {Q : Value × List Value → Shared → Prop} (X : K.In s.heap) (I : ObjM s.heap x dx C mA) (hg : PySem.W.plainGet K C name = true)
    (hf : PySem.W.findIn K (.ref C) name = some (some (.ref f))) (ht : PySem.W.isFn K (.ref f) = true) (hv : mA name = none) (h : Q (.ref f, [.ref x]) s) :
    wpAny (model prog w) A (getMethod (.ref x) name pl) Q E s := by
  obtain ⟨od, J, hl⟩ := I.look
  exact PySem.W.method_fn X J (PySem.W.plainGet_of hg).1 (PySem.W.plainGet_of hg).2 hf (beq_iff_eq.mp ht) (by show (PySem.W.lookIn name od).map (·.isSome) = some false; rw [hl, hv]; rfl) h

theorem set_map {ns : List Str} {Q : Unit → Shared → Prop} (X : K.In s.heap) (I : ObjM s.heap x dx C mA)
    (hs : PySem.W.findIn K (.ref C) "__setattr__" = some (some (.builtin "object.__setattr__"))) (hp : PySem.W.plainOver K C = true) (ht : PySem.W.takerIn K C name = some none) (hh : PySem.W.hasDictIn K C = true)
    (hw : PySem.Within mA ns) (hsz : ns.length ≤ sizeLine)
    (h : ∀ h', ObjM h' x dx C (fun y => if y = name then some v else mA y) → Heap.SameBut dx s.heap h' → Q () { s with heap := h', toks := s.toks + 2 }) :
    wpAny (model prog w) A (setAttr (.ref x) name v) Q E s := by
  obtain ⟨od, J, hl⟩ := I.look
  refine PySem.W.set_plain X J hs (PySem.W.osa_open (s := { s with toks := s.toks + 1 }) (r := none) X J hp ht fun b => ?_)
  obtain ⟨cd, hc, hd'⟩ := PySem.W.any_some hh
  have hx : s.heap.get? x = some ⟨.ref C, some dx, .plain, #[]⟩ := I.obj
  refine wpAny_bind (wpAny_pure (wpAny_bind (wpAny_bind (wpAny_loadPart hx (wpAny_bind (PySem.W.Looks.here (s := { s with toks := s.toks + 1 }) (PySem.W.looks_clsIn X hc) ?_))))))
  rw [hd']
  refine wpAny_pure (a := some dx) (wpAny_bind (wpAny_pure (wpAny_bind ?_)))
  refine wpAny_nsSet1 (s := { s with toks := s.toks + 1 }) I.ns fun h' hn2 hs2 => ?_
  obtain ⟨oD, esD, epD, hoD, hdD, hcD⟩ := hn2.count (PySem.Within.cons name v hw)
  refine wpAny_bind (wpAny_lookBehind hoD (by rw [hdD]; exact pastItsLine_dict (Nat.le_trans hcD (by rw [List.length_cons]; omega))) ?_)
  exact wpAny_pure (h _ ⟨(hs2.2 _ (Ne.symm I.ne)).trans I.obj, hn2, I.ne⟩ hs2)

theorem make_map {R : Result → Shared → Prop} {vs : List Value} {kw : List (Str × Value)} (X : K.In s.heap) (hm : PySem.W.makesIn K C = true)
    (hi : PySem.W.findIn K (.ref C) "__init__" = some (some (.ref f))) (hf : PySem.W.typeIn K (.ref f) = some (.type "function"))
    (h : codeAny (model prog w) (A.under (.builtin "type.__call__" ⟨.ref C :: vs, kw⟩)) (.call (.ref f) ⟨.ref (s.heap.objs.size + 1) :: vs, kw⟩) (PySem.W.InitBack (s.heap.objs.size + 1) R)
      { s with heap := (s.heap.push PySem.W.emptyDict).push (PySem.W.instObj C s.heap.objs.size) }) :
    codeAny (model prog w) A (.call (.ref C) ⟨vs, kw⟩) R s := by
  obtain ⟨hh, g, d, t, os⟩ := s
  exact PySem.W.make_core (PySem.W.makes_of X hm) (PySem.W.looks_findIn X hi) (fun self => PySem.W.bind_fn X self hf) (.inl rfl) h
end

def putF (f : Str) (v : V) : List (Str × V) → List (Str × V)
  | [] => [(f, v)]
  | (g, x) :: r => if g = f then (g, v) :: r else (g, x) :: putF f v r
theorem lookup_putF (f g : Str) (v : V) : ∀ fs : List (Str × V), (putF f v fs).lookup g = if g = f then some v else fs.lookup g
  | [] => by
    show List.lookup g [(f, v)] = _
    by_cases h : g = f
    · have hb : (g == f) = true := beq_iff_eq.mpr h
      simp only [List.lookup, hb, if_pos h]
    · have hb : (g == f) = false := beq_eq_false_iff_ne.mpr h
      simp only [List.lookup, hb, if_neg h]
  | (k, x) :: r => by
    have ih := lookup_putF f g v r
    rw [show putF f v ((k, x) :: r) = (if k = f then (k, v) :: r else (k, x) :: putF f v r) from rfl]
    by_cases hk : k = f
    · rw [if_pos hk]
      by_cases h : g = k
      · have hb : (g == k) = true := beq_iff_eq.mpr h
        simp only [List.lookup, hb, if_pos (h.trans hk)]
      · have hb : (g == k) = false := beq_eq_false_iff_ne.mpr h
        simp only [List.lookup, hb, if_neg (fun e : g = f => h (e.trans hk.symm))]
    · rw [if_neg hk]
      by_cases h : g = k
      · have hb : (g == k) = true := beq_iff_eq.mpr h
        simp only [List.lookup, hb, if_neg (fun e : g = f => hk (h.symm.trans e))]
      · have hb : (g == k) = false := beq_eq_false_iff_ne.mpr h
        simp only [List.lookup, hb]
        exact ih
theorem keys_putF (f : Str) (v : V) : ∀ fs : List (Str × V), f ∈ (putF f v fs).map (·.1) ∧ ∀ g, g ∈ fs.map (·.1) → g ∈ (putF f v fs).map (·.1)
  | [] => ⟨by simp [putF], fun g h => by simp at h⟩
  | (k, x) :: r => by
    obtain ⟨i1, i2⟩ := keys_putF f v r
    rw [show putF f v ((k, x) :: r) = (if k = f then (k, v) :: r else (k, x) :: putF f v r) from rfl]
    by_cases hk : k = f
    · rw [if_pos hk]
      subst hk
      exact ⟨by simp, fun g h => by simpa using h⟩
    · rw [if_neg hk]
      refine ⟨?_, fun g h => ?_⟩
      · rw [List.map_cons]
        exact List.mem_cons_of_mem _ i1
      · rw [List.map_cons] at h ⊢
        rcases List.mem_cons.mp h with e | e
        · exact List.mem_cons.mpr (.inl e)
        · exact List.mem_cons_of_mem _ (i2 g e)
theorem length_putF (f : Str) (v : V) : ∀ fs : List (Str × V), (putF f v fs).length ≤ fs.length + 1
  | [] => by simp [putF]
  | (k, x) :: r => by
    have ih := length_putF f v r
    rw [show putF f v ((k, x) :: r) = (if k = f then (k, v) :: r else (k, x) :: putF f v r) from rfl]
    by_cases hk : k = f
    · rw [if_pos hk, List.length_cons, List.length_cons]; omega
    · rw [if_neg hk, List.length_cons, List.length_cons]; omega

theorem RelO.some_of {v : V} {o : Option Value} (r : RelO (some v) o) : ∃ u, o = some u ∧ RelV v u := by
  cases o with
  | none => exact (show False from r).elim
  | some u => exact ⟨u, rfl, r⟩
theorem RelO.none_of {o : Option Value} (r : RelO none o) : o = none := by
  cases o with
  | none => rfl
  | some u => exact (show False from r).elim
theorem handed_of {v : V} {u : Value} (r : RelV v u) : PySem.W.handedIn u = true := by
  cases v with
  | non => cases (show u = Value.none from r); rfl
  | bl b => cases (show u = Value.bool b from r); rfl
  | int i => obtain ⟨t, e⟩ := (show ∃ t, u = Value.int i t from r); cases e; rfl
  | str x => obtain ⟨t, e⟩ := (show ∃ t, u = Value.str x t from r); cases e; rfl
  | byt b => obtain ⟨t, e⟩ := (show ∃ t, u = Value.bytes b t from r); cases e; rfl
  | flt b => obtain ⟨t, e⟩ := (show ∃ t, u = Value.float b t from r); cases e; rfl
  | ref a => cases (show u = Value.ref a from r); rfl
  | ty n => cases (show u = Value.type n from r); rfl

section
variable {P : Program} {w : World} {H H' : Hp} {h h' : Heap} {a C dx : Addr} {fs fs' : List (Str × V)}
theorem ins_get (hok : HOk P w H h) (e : H a = some (.ins C dx fs)) : ∃ mA, ObjM h a dx C mA ∧ (∀ f, RelO (fs.lookup f) (mA f)) ∧ PySem.Within mA (fs.map (·.1)) ∧ fs.length ≤ 1000 ∧ H dx = some (.own a) := by
  obtain ⟨d, z, ne, ob, mA, n, r, q⟩ := (show ObjOk P w H h a (.ins C dx fs) from hok a _ e)
  exact ⟨mA, ⟨ob, n, ne⟩, r, q, z, d⟩
end

structure Cls (K : PySem.W.Frag) (C : Addr) : Prop where
  pg : PySem.W.plainGet K C Str.empty = true
  hd : PySem.W.hasDictIn K C = true
  po : PySem.W.plainOver K C = true
  sa : PySem.W.findIn K (.ref C) "__setattr__" = some (some (.builtin "object.__setattr__"))
theorem Cls.get {K : PySem.W.Frag} {C : Addr} (c : Cls K C) (f : Str) : PySem.W.plainGet K C f = true := c.pg
def NoAttr (K : PySem.W.Frag) (C : Addr) (f : Str) : Prop := PySem.W.findIn K (.ref C) f = some none
theorem NoAttr.taker {K : PySem.W.Frag} {C : Addr} {f : Str} (n : NoAttr K C f) : PySem.W.takerIn K C f = some none := by
  unfold PySem.W.takerIn
  rw [show PySem.W.findIn K (.ref C) f = some none from n]
  rfl
structure Meth (K : PySem.W.Frag) (C : Addr) (m : Str) (f : Addr) : Prop where
  at_ : PySem.W.findIn K (.ref C) m = some (some (.ref f))
  fn : PySem.W.isFn K (.ref f) = true
  kp : PySem.W.keepIn K (.ref f) = true

section
variable {X : Cx} {pins : List (Addr × Obj)} {σ : St} {H : Hp} {s : Shared} {a C dx : Addr} {fs : List (Str × V)} {f : Str} {v : V} {A : Around} {E : Value → Shared → Prop}

theorem getattr_ok {b : Bool} {Q : Value → Shared → Prop} (I : Inv X pins σ H s) (e : H a = some (.ins C dx fs)) (c : Cls X.K C) (n : NoAttr X.K C f) (l : fs.lookup f = some v)
    (h : ∀ u s', Inv X pins σ H s' → RelV v u → Q u s') : wpAny (model X.prog X.w) A (getAttr (.ref a) f b) Q E s := by
  obtain ⟨mA, O, r, _, _, _⟩ := ins_get I.hok e
  obtain ⟨u, hu, ru⟩ := RelO.some_of (v := v) (o := mA f) (by rw [← l]; exact r f)
  exact get_map I.kIn O (c.get f) c.hd n hu (handed_of ru) (h u _ (I.tok _) ru)

theorem getmeth_ok {m : Str} {g : Addr} {pl : Sem Bool} {Q : Value × List Value → Shared → Prop} (I : Inv X pins σ H s) (e : H a = some (.ins C dx fs)) (c : Cls X.K C) (k : Meth X.K C m g) (l : fs.lookup m = none)
    (h : Q (.ref g, [.ref a]) s) : wpAny (model X.prog X.w) A (getMethod (.ref a) m pl) Q E s := by
  obtain ⟨mA, O, r, _, _, _⟩ := ins_get I.hok e
  have hn : mA m = none := RelO.none_of (by rw [← l]; exact r m)
  exact get_meth I.kIn O (c.get m) k.at_ k.fn hn h

theorem setattr_ok {y : V} {u : Value} {Q : Unit → Shared → Prop} (I : Inv X pins σ H s) (e : H a = some (.ins C dx fs)) (c : Cls X.K C) (n : NoAttr X.K C f) (hl : fs.length < 1000) (ry : RelV y u)
    (h : ∀ s', Inv X pins σ (upd H a (.ins C dx (putF f y fs))) s' → Q () s') : wpAny (model X.prog X.w) A (setAttr (.ref a) f u) Q E s := by
  obtain ⟨mA, O, r, wi, _, ho⟩ := ins_get I.hok e
  have hz : (fs.map (·.1)).length ≤ sizeLine := by rw [List.length_map, sizeLine_eq]; omega
  refine set_map I.kIn O c.sa c.po n.taker c.hd wi hz fun h' O' sb => h _ ?_
  have hd : ∃ o, h'.get? dx = some o := let ⟨o, _, _, e', _⟩ := O'.ns; ⟨o, e'⟩
  refine I.write (x := a) (e := dx) (by rw [e]; exact True.intro) (.inr ho) (fun b q hb z => (sb.2 b hb).trans z) hd ?_
  refine ⟨by rw [upd_ne O.ne]; exact ho, ?_, O.ne, O'.obj, _, O'.ns, fun g => ?_, fun g hg => ?_⟩
  · have := length_putF f y fs; omega
  · show RelO ((putF f y fs).lookup g) (if g = f then some u else mA g)
    rw [lookup_putF]
    by_cases q : g = f
    · rw [if_pos q, if_pos q]; exact ry
    · rw [if_neg q, if_neg q]; exact r g
  · by_cases q : g = f
    · rw [q]; exact (keys_putF f y fs).1
    · refine (keys_putF f y fs).2 g (wi g fun z => hg ?_)
      show (if g = f then some u else mA g) = none
      rw [if_neg q]; exact z

theorem Inv.made (I : Inv X pins σ H s) : Inv X pins σ (upd (upd H s.heap.objs.size (.own (s.heap.objs.size + 1))) (s.heap.objs.size + 1) (.ins C s.heap.objs.size []))
    { s with heap := (s.heap.push PySem.W.emptyDict).push (PySem.W.instObj C s.heap.objs.size) } := by
  have e1 : (s.heap.push PySem.W.emptyDict).get? s.heap.objs.size = some PySem.W.emptyDict := Heap.get?_push_size s.heap rfl
  have e2 : ((s.heap.push PySem.W.emptyDict).push (PySem.W.instObj C s.heap.objs.size)).get? (s.heap.objs.size + 1) = some (PySem.W.instObj C s.heap.objs.size) := by
    have := Heap.get?_push_size (s.heap.push PySem.W.emptyDict) (o := PySem.W.instObj C s.heap.objs.size) rfl
    rwa [Heap.size_push] at this
  have e3 : (s.heap.push PySem.W.emptyDict).Ns s.heap.objs.size (fun _ => none) := ⟨PySem.W.emptyDict, #[], _, e1, rfl, (fun e he => absurd he (by simp)), fun _ => rfl⟩
  have I1 := I.laid (a := s.heap.objs.size) (o := .own (s.heap.objs.size + 1)) (h' := s.heap.push PySem.W.emptyDict) (t' := s.toks) (fun b u q => Heap.get?_push_of_some _ q) (Nat.le_refl _) ⟨_, e1⟩
  refine I1.laid (a := s.heap.objs.size + 1) (o := .ins C s.heap.objs.size []) (t' := s.toks) (fun b u q => Heap.get?_push_of_some _ q) (Nat.le_of_eq (Heap.size_push _ _)) ?_
  have ne : s.heap.objs.size ≠ s.heap.objs.size + 1 := Nat.ne_of_lt (Nat.lt_succ_self _)
  refine ⟨by rw [upd_ne ne, upd_same], Nat.zero_le _, ne, e2, fun _ => none, (Heap.Ns1.of_empty e3).at fun o q => Heap.get?_push_of_some _ q, fun _ => True.intro, fun y hy => absurd rfl hy⟩

theorem attr_of {prog : Program} {w : World} {env : Env} {e : Expr} {f : Str} {pos : Pos} {s : Shared} {Q : Value → Shared → Prop} (hb : attributeBase e f env (eval e env) = eval e env)
    (h : wpAny (model prog w) A (eval e env) (fun o s₁ => wpAny (model prog w) A (getAttr o f true) Q E s₁) E s) : wpAny (model prog w) A (eval (.Attribute e f pos) env) Q E s :=
  Attribute_any_ h (by rw [arm_eval_Attribute, hb])
end

section
variable {X : Cx} {pins : List (Addr × Obj)} {σ : St} {H : Hp} {s : Shared} {A : Around} {E : Value → Shared → Prop} {Q : Value → Shared → Prop} {c : Value} {b : Bool}
inductive TyOf (K : PySem.W.Frag) (H : Hp) : V → Value → Prop where
  | non : TyOf K H .non (.type "NoneType")
  | bl (x : Bool) : TyOf K H (.bl x) (.type "bool")
  | int (i : Int) : TyOf K H (.int i) (.type "int")
  | str (x : Str) : TyOf K H (.str x) (.type "str")
  | flt (x : UInt64) : TyOf K H (.flt x) (.type "float")
  | lst {a : Addr} {xs : List V} (e : H a = some (.lst xs)) : TyOf K H (.ref a) (.type "list")
  | frz {a : Addr} {o : Obj} {xs : List V} (e : H a = some (.frz o (.lst xs))) : TyOf K H (.ref a) (.type "list")
  | tup {a : Addr} {xs : List V} (e : H a = some (.tup xs)) : TyOf K H (.ref a) (.type "tuple")
  | dK {a : Addr} {kvs : List (Key × V)} (e : H a = some (.dK kvs)) : TyOf K H (.ref a) (.type "dict")
  | dT {a : Addr} {kvs : List (List Key × V)} (e : H a = some (.dT kvs)) : TyOf K H (.ref a) (.type "dict")
  | ins {a C dx : Addr} {fs : List (Str × V)} (e : H a = some (.ins C dx fs)) (cl : Cls K C) (ha : PySem.W.findIn K (.ref C) "__class__" = some (some (.builtin "object.__class__")))
      (hn : PySem.W.specialIn K (.builtin "object.__class__") "__get__" = some (some (.builtin "getset_descriptor.__get__"))) (htk : PySem.W.takesIn K (.builtin "object.__class__") = some true)
      (hm : PySem.W.mroIn K C (.type "object") = some true) : TyOf K H (.ref a) (.ref C)
theorem isinst_ok {x : V} {u t : Value} (I : Inv X pins σ H s) (rx : RelV x u) (ty : TyOf X.K H x t) (e : PySem.W.kitOne X.K t c = some b) (h : ∀ tk, Q (.bool b) { s with toks := tk }) :
    wpAny (model X.prog X.w) A (call (.builtin "isinstance") [u, c]) Q E s := by
  cases ty with
  | non => cases (show u = Value.none from rx); exact PySem.W.kia_one PySem.W.kitx_none I.kIn True.intro e (fun z => nomatch z) h
  | bl y => cases (show u = Value.bool y from rx); exact PySem.W.kia_one PySem.W.kitx_bool I.kIn True.intro e (fun z => nomatch z) h
  | int i => obtain ⟨t, q⟩ := (show ∃ t, u = Value.int i t from rx); cases q; exact PySem.W.kia_one PySem.W.kitx_int I.kIn True.intro e (fun z => nomatch z) h
  | str y => obtain ⟨t, q⟩ := (show ∃ t, u = Value.str y t from rx); cases q; exact PySem.W.kia_one PySem.W.kitx_str I.kIn True.intro e (fun z => nomatch z) h
  | flt y => obtain ⟨t, q⟩ := (show ∃ t, u = Value.float y t from rx); cases q; exact PySem.W.kia_one PySem.W.kitx_float I.kIn True.intro e (fun z => nomatch z) h
  | @lst a xs ea =>
    cases (show u = Value.ref a from rx)
    obtain ⟨_, _, n, _, h1⟩ := (show ObjOk X.prog X.w H s.heap a (.lst xs) from I.hok a _ ea)
    exact PySem.W.kia_one PySem.W.kitx_list I.kIn ⟨_, h1, rfl⟩ e (fun z => nomatch z) h
  | @frz a ob xs ea =>
    cases (show u = Value.ref a from rx)
    obtain ⟨_, _, _, n, _, h1⟩ := (show ObjOk X.prog X.w H s.heap a (.frz ob (.lst xs)) from I.hok a _ ea)
    exact PySem.W.kia_one PySem.W.kitx_list I.kIn ⟨_, h1, rfl⟩ e (fun z => nomatch z) h
  | @tup a xs ea =>
    cases (show u = Value.ref a from rx)
    obtain ⟨_, _, _, p⟩ := (show ObjOk X.prog X.w H s.heap a (.tup xs) from I.hok a _ ea)
    obtain ⟨o, h1, h2, _⟩ := p
    exact PySem.W.kia_one PySem.W.kitx_tuple I.kIn ⟨o, h1, h2⟩ e (fun z => nomatch z) h
  | @dK a kvs ea =>
    cases (show u = Value.ref a from rx)
    obtain ⟨_, _, vs, _, p⟩ := (show ObjOk X.prog X.w H s.heap a (.dK kvs) from I.hok a _ ea)
    obtain ⟨o, es, ep, h1, h2, _⟩ := p
    exact PySem.W.kia_one PySem.W.kitx_dict I.kIn ⟨o, h1, h2.1⟩ e (fun z => nomatch z) h
  | @dT a kvs ea =>
    cases (show u = Value.ref a from rx)
    obtain ⟨_, _, xs, _, o, es, ep, h1, h2, _⟩ := (show ObjOk X.prog X.w H s.heap a (.dT kvs) from I.hok a _ ea)
    exact PySem.W.kia_one PySem.W.kitx_dict I.kIn ⟨o, h1, h2.1⟩ e (fun z => nomatch z) h
  | @ins a C dx fs ea cl ha hn htk hm =>
    cases (show u = Value.ref a from rx)
    obtain ⟨mA, O, _⟩ := ins_get I.hok ea
    obtain ⟨od, J, _⟩ := O.look
    exact PySem.W.kia_one (PySem.W.kitx_own (cl.get _) cl.hd ha hn htk hm) I.kIn J e (fun z => nomatch z) h
end
end L2

namespace L2
open PySem PySem.Spec PyProof.Rows

structure Room (k : Nat) (A : Around) : Prop where
  hd : A.handled = none
  dp : A.depth + 3 * k + 5 < recursionLimit
  un : A.units + 16 * k + 200 < cLine
theorem Room.mono {j k : Nat} {A : Around} (r : Room k A) (h : j ≤ k) : Room j A := ⟨r.hd, by have := r.dp; omega, by have := r.un; omega⟩
theorem Room.deeper {k : Nat} {A : Around} (r : Room (k + 1) A) (env : Env) : Room k (A.deeper env) :=
  ⟨r.hd, by have := r.dp; show A.depth + 1 + 3 * k + 5 < _; omega, by have := r.un; show A.units + 3 + 16 * k + 200 < _; omega⟩
theorem make_depth {A : Around} {C : Addr} {us : List Value} {kw : List (Str × Value)} : (A.under (.builtin "type.__call__" ⟨.ref C :: us, kw⟩)).depth = A.depth + 1 := by
  first | rfl | simp [Around.under, Code.weight, Code.isCreation, Code.isGuard, Code.isCaller, Code.frames, Code.isFrame, guardIds]
theorem make_units {A : Around} {C : Addr} {us : List Value} {kw : List (Str × Value)} : (A.under (.builtin "type.__call__" ⟨.ref C :: us, kw⟩)).units = A.units + 1 := by
  first | rfl | simp [Around.under, Code.cUnits, Code.frames, Code.isFrame]
theorem Room.make {k : Nat} {A : Around} (r : Room (k + 1) A) (C : Addr) (us : List Value) (kw : List (Str × Value)) : Room k (A.under (.builtin "type.__call__" ⟨.ref C :: us, kw⟩)) :=
  ⟨r.hd, by have := r.dp; rw [make_depth]; omega, by have := r.un; rw [make_units]; omega⟩
theorem Room.depth {k : Nat} {A : Around} (r : Room k A) : A.depth < recursionLimit := by have := r.dp; omega
theorem Room.units {k : Nat} {A : Around} (r : Room k A) : A.units + 64 < cLine := by have := r.un; omega
theorem Room.units0 {k : Nat} {A : Around} (r : Room k A) : A.units < cLine := by have := r.un; omega

def tNil : TA := fun _ H Q => Q [] H
def tCons (ta : TE) (tr : TA) : TA := fun σ H Q => ta σ H fun x H1 => tr σ H1 fun xs H2 => Q (x :: xs) H2
section
variable {X : Cx} {e : Expr} {es : List Expr} {te : TE} {t : TA} {pos : Pos}
theorem pa_nil : PA X [] tNil := fun _ _ _ _ H Q I h => Calls.spliced_nil ⟨[], H, I, .nil, h⟩
theorem pa_cons (ha : PE X e te) (hr : PA X es t) (hs : starEach (e :: es) X.env = (false, eval e X.env) :: starEach es X.env := by rfl) : PA X (e :: es) (tCons te t) := by
  intro pos pins s σ H Q I h
  rw [hs]
  show wpAny _ _ (spliced ((false, eval e X.env) :: backTo pos (starEach es X.env))) _ _ s
  refine Calls.spliced_cons (thn (ha pins s σ H _ I h) fun u s1 ⟨x, H1, I1, r1, q1⟩ => ?_)
  exact thn (hr pos pins s1 σ H1 _ I1 q1) fun us s2 ⟨xs, H2, I2, r2, q2⟩ => ⟨x :: xs, H2, I2, .cons r1 r2, q2⟩

def tTup (t : TA) : TE := fun σ H Q => t σ H fun xs H1 => xs.length ≤ sizeLine ∧ ∀ p, H1 p = none → Q (.ref p) (upd H1 p (.tup xs))
def tLst (t : TA) : TE := fun σ H Q => t σ H fun xs H1 => xs.length ≤ sizeLine ∧ ∀ p, H1 p = none → Q (.ref p) (upd H1 p (.lst xs))
theorem pe_tup {x1} (h : PA X es t) : PE X (.Tuple es x1 pos) (tTup t) := by
  intro pins s σ H Q I hq
  refine wpAny_Tuple_spliced (thn (h pos pins s σ H _ I hq) fun us s1 ⟨xs, H1, I1, r, z, q⟩ => ⟨by rw [← r.length]; exact z, ?_⟩)
  have hf : H1 s1.heap.objs.size = none := I1.hok.fresh (Nat.le_refl _)
  refine ⟨.ref s1.heap.objs.size, upd H1 s1.heap.objs.size (.tup xs), I1.laid (t' := s1.toks) (fun b u e => Heap.get?_push_of_some _ e) (Nat.le_refl _) ?_, rfl, q _ hf⟩
  exact ⟨z, us, r, ⟨_, Heap.get?_push_size _ rfl, rfl, _, rfl⟩⟩
theorem pe_lst (h : PA X es t) : PE X (.List es pos) (tLst t) := by
  intro pins s σ H Q I hq
  refine wpAny_List_spliced (thn (h pos pins s σ H _ I hq) fun us s1 ⟨xs, H1, I1, r, z, q⟩ => ⟨by rw [← r.length]; exact z, ?_⟩)
  have hf : H1 s1.heap.objs.size = none := I1.hok.fresh (Nat.le_refl _)
  refine ⟨.ref s1.heap.objs.size, upd H1 s1.heap.objs.size (.lst xs), I1.laid (t' := s1.toks) (fun b u e => Heap.get?_push_of_some _ e) (Nat.le_refl _) ?_, rfl, q _ hf⟩
  exact ⟨z, us, 0, r, Heap.get?_push_size _ rfl⟩
end

abbrev Sp := List V → Hp → VK → XK → Prop
abbrev CXT := List Env → Hp → Shared → XK → Value → Shared → Prop

structure Env0 (P : Program) (w : World) (K : PySem.W.Frag) (mg : Str → Option Value) (base : Heap) (A : Around) (outer : List Env) (s : Shared) (H : Hp) : Prop where
  frames : A.frames = some outer
  mod : Mod K mg base
  bs : ∀ b o, base.get? b = some o → s.heap.get? b = some o ∧ H b = none
  bsz : base.objs.size ≤ s.heap.objs.size
  funs : s.heap.FunFrames base outer
  frf : ∀ b ∈ frs outer, H b = none
  hok : HOk P w H s.heap
  bare : AllBare s.gens
def CE (outer : List Env) (P : Program) (w : World) (H : Hp) (s : Shared) (Q : VK) (u : Value) (s' : Shared) : Prop :=
  ∃ v H', s'.os = s.os ∧ AllBare s'.gens ∧ Un (frs outer) [] H H' s.heap s'.heap ∧ HOk P w H' s'.heap ∧ RelV v u ∧ Q v H'
def CR (CX : CXT) (outer : List Env) (P : Program) (w : World) (H : Hp) (s : Shared) (Q : VK) (E : XK) (r : Result) (s' : Shared) : Prop :=
  match r with
  | .ok (.ret u) => CE outer P w H s Q u s'
  | .ok _ => False
  | .error e => CX outer H s E e s'
structure FnOk (P : Program) (w : World) (K : PySem.W.Frag) (mg : Str → Option Value) (base : Heap) (CX : CXT) (k : Nat) (f : Addr) (fd : FuncData) (ps : List Str) (sp : Sp) : Prop where
  len : ∀ vs H Q E, sp vs H Q E → vs.length = ps.length
  run : ∀ (A : Around) (outer : List Env) (s : Shared) (H : Hp) (args : Args) (us : List Value) (vs : List V) (Q : VK) (E : XK), Room k A → Env0 P w K mg base A outer s H → BindsTo s fd args (ps.zip us) → Vals vs us → sp vs H Q E →
    codeAny (model P w) A (.call (.ref f) args) (CR CX outer P w H s Q E) s
theorem Env0.make {P : Program} {w : World} {K : PySem.W.Frag} {mg : Str → Option Value} {base : Heap} {A : Around} {outer : List Env} {s : Shared} {H : Hp} (e : Env0 P w K mg base A outer s H) (C : Addr) (us : List Value) (kw : List (Str × Value)) :
    Env0 P w K mg base (A.under (.builtin "type.__call__" ⟨.ref C :: us, kw⟩)) outer s H := ⟨by first | exact e.frames | (simpa [Around.under, Code.envs, Code.isFrame, pushEnvs] using e.frames), e.mod, e.bs, e.bsz, e.funs, e.frf, e.hok, e.bare⟩
section
variable {X : Cx} {pins : List (Addr × Obj)} {σ : St} {H : Hp} {s s' : Shared}
theorem Inv.env0 (I : Inv X pins σ H s) : Env0 X.prog X.w X.K X.mg X.base X.A X.stack s H :=
  ⟨I.ok.frames, I.ok.mod, I.bs, Nat.le_trans I.ok.bsz I.sz, I.stack, I.stkFree, I.hok, I.bare⟩
theorem Inv.after {Q : VK} {u : Value} (I : Inv X pins σ H s) (h : CE X.stack X.prog X.w H s Q u s') : EP X pins σ Q u s' := by
  obtain ⟨v, H', os, bare, un, hok, r, q⟩ := h
  obtain ⟨hh, g, d, t, os'⟩ := s'
  obtain rfl : os' = s.os := os
  exact ⟨v, H', I.call (h' := hh) (g' := g) (d' := d) (t' := t) (ch := []) un hok bare (fun b z => absurd z (by simp)), r, q⟩
end

def Binds (K : PySem.W.Frag) (fd : FuncData) (ps : List Str) (ds : List Value) : Prop :=
  ∀ (s : Shared) (us : List Value), K.In s.heap → (us ++ ds).length = ps.length → BindsTo s fd ⟨us, []⟩ (ps.zip (us ++ ds))
theorem Binds.all {K : PySem.W.Frag} {fd : FuncData} {ps : List Str} (h : ∀ us : List Value, us.length = ps.length → bindArgs fd ⟨us, []⟩ = pure (ps.zip us)) : Binds K fd ps [] := fun s us _ hl => by
  rw [List.append_nil] at hl ⊢
  exact .of_eq (h us hl)

def Passes (CX : CXT) (X : Cx) (E : XK) : Prop := ∀ (pins : List (Addr × Obj)) (σ : St) (H : Hp) (s : Shared) (e : Value) (s' : Shared), Inv X pins σ H s → CX X.stack H s E e s' → X.xe e s'

section
variable {X : Cx} {CX : CXT} {k : Nat} {f C : Addr} {fd : FuncData} {ps : List Str} {sp : Sp} {dvs : List V} {ds : List Value} {E : XK} {x m : Str} {p pos apos : Pos} {e o : Expr} {es : List Expr} {ta : TE} {t : TA}

theorem run_fn {pins : List (Addr × Obj)} {σ : St} {H : Hp} {s : Shared} {Q : VK} {us : List Value} {vs : List V} (F : FnOk X.prog X.w X.K X.mg X.base CX k f fd ps sp) (hr : Room k X.A) (hb : Binds X.K fd ps ds) (hd : Vals dvs ds) (hx : Passes CX X E)
    (I : Inv X pins σ H s) (r : Vals vs us) (h : sp (vs ++ dvs) H Q E) : wpAny (model X.prog X.w) X.A (call (.ref f) us) (EP X pins σ Q) X.xe s := by
  have r2 : Vals (vs ++ dvs) (us ++ ds) := r.append hd
  have hl : (us ++ ds).length = ps.length := by rw [← r2.length]; exact F.len _ _ _ _ h
  refine wpAny_call (codeAny_mono (F.run X.A X.stack s H ⟨us, []⟩ (us ++ ds) (vs ++ dvs) Q E hr I.env0 (hb s us I.kIn hl) r2 h) fun r s' hq => ?_)
  cases r with
  | error e => exact hx pins σ H s e s' I hq
  | ok fl =>
    cases fl with
    | ret u => exact I.after hq
    | next => exact False.elim hq
    | brk => exact False.elim hq
    | cont => exact False.elim hq

structure Mk (K : PySem.W.Frag) (C f : Addr) : Prop where
  makes : PySem.W.makesIn K C = true
  init : PySem.W.findIn K (.ref C) "__init__" = some (some (.ref f))
  fn : PySem.W.isFn K (.ref f) = true
  kp : PySem.W.keepIn K (.ref C) = true

theorem run_make {pins : List (Addr × Obj)} {σ : St} {H : Hp} {s : Shared} {Q : VK} {us : List Value} {vs : List V} (M : Mk X.K C f) (F : FnOk X.prog X.w X.K X.mg X.base CX k f fd ps sp) (hr : Room (k + 1) X.A) (hb : Binds X.K fd ps ds) (hd : Vals dvs ds)
    (hx : Passes CX X E) (I : Inv X pins σ H s) (r : Vals vs us)
    (h : ∀ x dx, H x = none → H dx = none → dx ≠ x → sp (.ref x :: (vs ++ dvs)) (upd (upd H dx (.own x)) x (.ins C dx [])) (fun v H2 => v = .non ∧ Q (.ref x) H2) E) :
    wpAny (model X.prog X.w) X.A (call (.ref C) us) (EP X pins σ Q) X.xe s := by
  have hq := h (s.heap.objs.size + 1) s.heap.objs.size (I.hok.fresh (Nat.le_succ _)) (I.hok.fresh (Nat.le_refl _)) (Nat.ne_of_lt (Nat.lt_succ_self _))
  have I2 := Inv.made (C := C) I
  have r2 : Vals (V.ref (s.heap.objs.size + 1) :: (vs ++ dvs)) (Value.ref (s.heap.objs.size + 1) :: (us ++ ds)) := .cons rfl (r.append hd)
  have hl : (Value.ref (s.heap.objs.size + 1) :: us ++ ds).length = ps.length := by
    have e := r2.length
    rw [F.len _ _ _ _ hq] at e
    exact e.symm
  refine wpAny_call (make_map (f := f) I.kIn M.makes M.init (beq_iff_eq.mp M.fn) (codeAny_mono (F.run _ X.stack _ _ ⟨Value.ref (s.heap.objs.size + 1) :: us, []⟩ (Value.ref (s.heap.objs.size + 1) :: (us ++ ds)) _ _ E (hr.make C us [])
    (I2.env0.make C us []) (hb _ (Value.ref (s.heap.objs.size + 1) :: us) I2.kIn hl) r2 hq) fun r s' hq' => ?_))
  cases r with
  | error e => exact hx pins σ _ _ e s' I2 hq'
  | ok fl =>
    cases fl with
    | ret u =>
      obtain ⟨v, H', I3, rv, ev, q3⟩ := I2.after hq'
      subst ev
      exact ⟨rv, ⟨V.ref (s.heap.objs.size + 1), H', I3, rfl, q3⟩⟩
    | next => exact False.elim hq'
    | brk => exact False.elim hq'
    | cont => exact False.elim hq'
end

structure FnScope (N P : List Str) (sc : Scope) : Prop where
  kind : sc.kind = .function
  co : sc.isCoroutine = false
  gen : sc.isGenerator = false
  nd : N.Nodup
  pre : N.take P.length = P
  par : ∀ x ∈ P, sc.names.lookup x = some .local ∨ sc.names.lookup x = some .cell
  nofree : ∀ y ∈ sc.names, y.2 ≠ .free

theorem bindL_out {kindOf : Str → Option NameKind} {x : Str} : ∀ {binds : List (Str × Value)} {m : Str → Option Value}, (∀ v, (x, v) ∉ binds) → bindL kindOf binds m x = m x
  | [], _, _ => rfl
  | (n, v) :: r, m, h => by
    unfold bindL
    rw [bindL_out fun w hw => h w (List.mem_cons_of_mem _ hw)]
    split
    · have : x ≠ n := by rintro rfl; exact h v List.mem_cons_self
      simp [this]
    · rfl
theorem bindC_out {kindOf : Str → Option NameKind} {x : Str} : ∀ {binds : List (Str × Value)} {m : Str → Option Value}, (∀ v, (x, v) ∉ binds) → bindC kindOf binds m x = m x
  | [], _, _ => rfl
  | (n, v) :: r, m, h => by
    unfold bindC
    rw [bindC_out fun w hw => h w (List.mem_cons_of_mem _ hw)]
    split
    · rfl
    · have : x ≠ n := by rintro rfl; exact h v List.mem_cons_self
      simp [this]
theorem bindL_get {kindOf : Str → Option NameKind} {x : Str} {v : Value} : ∀ {P : List Str} {vs : List Value} {i : Nat} {m : Str → Option Value}, P.Nodup → P[i]? = some x → vs[i]? = some v → kindOf x = some .local →
    bindL kindOf (P.zip vs) m x = some v
  | [], _, _, _, _, h, _, _ => by simp at h
  | _ :: _, [], _, _, _, _, h, _ => by simp at h
  | p :: P, w :: vs, 0, m, nd, h1, h2, hk => by
    simp at h1 h2; subst h1; subst h2
    show bindL kindOf ((p, w) :: P.zip vs) m p = _
    unfold bindL
    rw [bindL_out fun v hv => (List.nodup_cons.mp nd).1 (List.of_mem_zip hv).1, if_pos hk]
    simp
  | p :: P, w :: vs, i + 1, m, nd, h1, h2, hk => by
    show bindL kindOf ((p, w) :: P.zip vs) m x = _
    unfold bindL
    exact bindL_get (i := i) (List.nodup_cons.mp nd).2 (by simpa using h1) (by simpa using h2) hk
theorem bindC_get {kindOf : Str → Option NameKind} {x : Str} {v : Value} : ∀ {P : List Str} {vs : List Value} {i : Nat} {m : Str → Option Value}, P.Nodup → P[i]? = some x → vs[i]? = some v → kindOf x ≠ some .local →
    bindC kindOf (P.zip vs) m x = some v
  | [], _, _, _, _, h, _, _ => by simp at h
  | _ :: _, [], _, _, _, _, h, _ => by simp at h
  | p :: P, w :: vs, 0, m, nd, h1, h2, hk => by
    simp at h1 h2; subst h1; subst h2
    show bindC kindOf ((p, w) :: P.zip vs) m p = _
    unfold bindC
    rw [bindC_out fun v hv => (List.nodup_cons.mp nd).1 (List.of_mem_zip hv).1, if_neg hk]
    simp
  | p :: P, w :: vs, i + 1, m, nd, h1, h2, hk => by
    show bindC kindOf ((p, w) :: P.zip vs) m x = _
    unfold bindC
    exact bindC_get (i := i) (List.nodup_cons.mp nd).2 (by simpa using h1) (by simpa using h2) hk

def start (N : List Str) (vs : List V) : St := vs.map some ++ List.replicate (N.length - vs.length) none

def cxOf (CX : CXT) (P : Program) (w : World) (K : PySem.W.Frag) (mg : Str → Option Value) (base : Heap) (N : List Str) (qual : Str) (scope : Scope) (f : Addr) (cd : Value) (A : Around) (outer : List Env) (s : Shared) (H : Hp) (E : XK) : Cx where
  prog := P
  w := w
  K := K
  mg := mg
  base := base
  A := A.deeper (envOfC qual scope s.heap.objs.size f cd)
  N := N
  s₀ := s
  H₀ := H
  env := envOfC qual scope s.heap.objs.size f cd
  outer := outer
  stack := envOfC qual scope s.heap.objs.size f cd :: outer
  ex := []
  calm := true
  fn := fun _ => true
  pn := []
  xe := fun e s' => wpAny (model P w) (A.deeper (envOfC qual scope s.heap.objs.size f cd)) (leaving (envOfC qual scope s.heap.objs.size f cd) e) (fun _ s'' => CX outer H s E e s'') (fun e' s'' => CX outer H s E e' s'') s'

theorem cell_has {sc : Scope} {n : Nat} {x : Str} (h : sc.names.lookup x = some .cell) : ∃ c, (cellsFrom n sc.names []).lookup x = some c := by
  have q := PySem.W.cellsFrom_some sc.names n [] (.inl h)
  exact Option.isSome_iff_exists.mp q

theorem inv_start {CX : CXT} {P : Program} {w : World} {K : PySem.W.Frag} {mg : Str → Option Value} {base : Heap} {N ps : List Str} {qual : Str} {scope : Scope} {f : Addr} {cd : Value} {A : Around} {outer : List Env} {s s1 : Shared} {H : Hp} {E : XK} {us : List Value} {vs : List V}
    (S : FnScope N ps scope) (hd : A.handled = none) (e0 : Env0 P w K mg base A outer s H) (hl : vs.length = ps.length) (r : Vals vs us)
    (x : InCallC s s.heap.objs.size (bindL (envOfC qual scope s.heap.objs.size f cd).kindOf (ps.zip us) fun _ => none) (cellsFrom (s.heap.objs.size + 1) scope.names []) (bindC (envOfC qual scope s.heap.objs.size f cd).kindOf (ps.zip us) fun _ => none) s1) :
    Inv (cxOf CX P w K mg base N qual scope f cd A outer s H E) [] (start N vs) H s1 := by
  have hpl : ps.length ≤ N.length := by have := congrArg List.length S.pre; rw [List.length_take] at this; omega
  obtain ⟨h1, tk, rfl, hk⟩ := x.done
  have noA : ∀ b : Addr, b ∉ (cxOf CX P w K mg base N qual scope f cd A outer s H E).ex := fun b z => absurd (show b ∈ ([] : List Addr) from z) (by simp)
  refine ⟨⟨e0.mod, S.kind, rfl, rfl, Nat.le_refl _, fun y z c h1 h2 => ?_, fun y hy => ?_, fun y c _ h => ?_, fun _ => hd, Around.frames_deeper e0.frames, .inr ⟨rfl, rfl⟩, fun b z => absurd z (noA b), e0.bs, e0.bsz, fun b _ _ => noA b, fun b z => absurd z (noA b), e0.funs, e0.frf⟩,
    rfl, e0.bare, Un.kept hk, ⟨_, x.toInCall.ns, fun i y v h1 h2 h3 => ?_⟩, fun y c h => ⟨_, x.cell y c h⟩, e0.hok.fresh (Nat.le_refl _), fun y c h => ?_, fun p hp => absurd (show p ∈ ([] : List (Addr × Obj)) from hp) (by simp), e0.hok.kept hk, ?_⟩
  · exact name_of_addr x.apart (PySem.mem_of_lookup h1) (PySem.mem_of_lookup h2)
  · have hy : scope.names.lookup y = some .cell ∨ scope.names.lookup y = some .free := hy
    rcases hy with hy | hy
    · exact cell_has hy
    · exact absurd rfl (S.nofree _ (PySem.mem_of_lookup hy))
  · exact Nat.le_of_lt (x.above y c (PySem.mem_of_lookup h))
  · have hi : i < vs.length := by
      unfold start at h2
      by_cases hi : i < vs.length
      · exact hi
      · rw [List.getElem?_append_right (by simpa using hi)] at h2
        rw [List.getElem?_replicate] at h2
        split at h2 <;> cases h2
    have ha : vs[i]? = some v := by
      unfold start at h2
      rw [List.getElem?_append_left (by simpa using hi), List.getElem?_map] at h2
      cases e : vs[i]? with
      | none => rw [e] at h2; cases h2
      | some a => rw [e] at h2; cases h2; rfl
    obtain ⟨u, hu, rv⟩ := r.get ha
    have hp : ps[i]? = some y := by
      rw [← S.pre, List.getElem?_take_of_lt (by omega)]; exact h1
    have ndP : ps.Nodup := by rw [← S.pre]; exact S.nd.sublist (List.take_sublist _ _)
    refine ⟨u, rv, ?_⟩
    rcases S.par y (List.mem_of_getElem? hp) with k | k
    · exact .inl ⟨k, bindL_get ndP hp hu k⟩
    · obtain ⟨c, e⟩ := cell_has (n := s.heap.objs.size + 1) k
      refine .inr ⟨.inl k, c, e, ?_⟩
      have q := x.cell y c e
      rw [bindC_get ndP hp hu (by show scope.names.lookup y ≠ _; rw [k]; decide)] at q
      exact q
  · exact e0.hok.fresh (Nat.le_of_lt (x.above y c (PySem.mem_of_lookup h)))
  · unfold start
    show _ = N.length
    rw [List.length_append, List.length_map, List.length_replicate]
    omega

theorem fn_of {CX : CXT} {P : Program} {w : World} {K : PySem.W.Frag} {mg : Str → Option Value} {base : Heap} {k : Nat} {f : Addr} {name qual : Str} {params : Arguments} {body : List Stmt} {scope : Scope} {dV kV doc pm cdv ct oc : Value} {an od : Option Addr}
    {osl : Array (Option Value)} {N ps : List Str} {sp : Sp} (lk : K.lookup f = some ⟨oc, od, .func (PySem.W.fnOf name qual params body scope dV kV doc pm an cdv ct), osl⟩) (hcd : PySem.W.codeIn K cdv qual = true) (S : FnScope N ps scope)
    (len : ∀ vs H Q E, sp vs H Q E → vs.length = ps.length)
    (hbody : ∀ (A : Around) (outer : List Env) (s : Shared) (H : Hp) (vs : List V) (Q : VK) (E : XK), Room k (A.deeper (envOfC qual scope s.heap.objs.size f cdv)) → sp vs H Q E →
      ∃ t, PSs (cxOf CX P w K mg base N qual scope f cdv A outer s H E) body t ∧ t { nx := fun _ H' => Q .non H', rt := Q } (start N vs) H) :
    FnOk P w K mg base CX (k + 1) f (PySem.W.fnOf name qual params body scope dV kV doc pm an cdv ct) ps sp := by
  refine ⟨len, fun A outer s H args us vs Q E hr e0 hb r hsp => ?_⟩
  have hl := len _ _ _ _ hsp
  have KX : K.In s.heap := e0.mod.kin.keeps fun b o e => (e0.bs b o e).1
  have lim : s.heap.NoLimit := e0.mod.nolimit.keeps fun b o e => (e0.bs b o e).1
  have hkind : ∀ y ∈ ps.zip us, scope.names.lookup y.1 = some .local ∨ (scope.names.lookup y.1 = some .cell ∧ ((cellsFrom (s.heap.objs.size + 1) scope.names []).lookup y.1).isSome = true) := fun ⟨n, v⟩ hy => by
    rcases S.par n (List.of_mem_zip hy).1 with q | q
    · exact .inl q
    · exact .inr ⟨q, PySem.W.cellsFrom_some _ _ _ (.inl q)⟩
  refine codeAny_call_function hr.depth (KX _ _ lk) rfl S.co S.gen rfl (PySem.W.codeRec_of KX hcd) (hb _ _ _ _ ?_)
  refine wpAny_newFunctionEnv_cells S.kind hkind fun env he s1 x => ?_
  subst he
  refine ⟨lim.keeps x.toInCall.keep, codeAny_func ?_⟩
  obtain ⟨t, ht, hq⟩ := hbody A outer s H vs Q E (hr.deeper _) hsp
  have I : Inv (cxOf CX P w K mg base N qual scope f cdv A outer s H E) [] (start N vs) H s1 := inv_start S hr.hd e0 hl r x
  refine wpAny_mono (ht [] s1 (start N vs) H _ I hq) (fun fl s' hs => ?_) fun e s' hs => hs
  have fin : ∀ {σ' : St} {H' : Hp} {v : V} {u : Value}, Inv (cxOf CX P w K mg base N qual scope f cdv A outer s H E) [] σ' H' s' → RelV v u → Q v H' → CE outer P w H s Q u s' :=
    fun {σ' H' v u} J rv q => ⟨v, H', J.os, J.bare, J.base, J.hok, rv, q⟩
  cases fl with
  | ret u =>
    obtain ⟨v, σ', H', J, rv, q⟩ := hs
    exact fin J rv q
  | next =>
    obtain ⟨σ', H', J, q⟩ := hs
    exact fin (v := V.non) (u := Value.none) J rfl q
  | brk =>
    obtain ⟨_, _, _, q⟩ := hs
    exact False.elim q
  | cont =>
    obtain ⟨_, _, _, q⟩ := hs
    exact False.elim q
end L2

namespace L2
open PySem PySem.Spec PyProof.Rows
section
variable {X : Cx} {x : Str} {p pos : Pos} {e : Expr} {es : List Expr} {t : TA} {id T : String} {r : List V → Hp → VK → Prop}

def tCB (r : List V → Hp → VK → Prop) (t : TA) : TE := fun σ H Q => t σ H fun vs H1 => r vs H1 Q
theorem pe_callB (hc : CallR X (.builtin id) r) (hg : Gl X x) (hm : X.mg x = none) (hv : bootBuiltins x = some (.builtin id)) (ha : PA X (e :: es) t) (hn : x ≠ "__name__" := by decide) (hdb : (x == ("__debug__" : Str)) = false := by decide)
    (he : starEach (e :: es) X.env = (false, eval e X.env) :: starEach es X.env := by rfl) (hpl : (backTo pos (starEach es X.env)).any (·.1) = false := by rfl) : PE X (.Call (.Name x p) (e :: es) [] pos) (tCB r t) := by
  intro pins s σ H Q I h
  refine wpAny_Call_Name_kw (ld_blt I hg hm hv ?_ hn hdb)
  exact PyProof.Rows.callWith_builtin1 (thn (ha pos pins s σ H _ I h) fun us s1 ⟨vs, H1, I1, r1, q1⟩ => hc pins s1 σ H1 vs us Q I1 r1 q1) he hpl
theorem pe_callTy (hc : CallR X (.type T) r) (hg : Gl X x) (hm : X.mg x = none) (hv : bootBuiltins x = some (.type T)) (ha : PA X (e :: es) t) (hn : x ≠ "__name__" := by decide) (hdb : (x == ("__debug__" : Str)) = false := by decide)
    (he : starEach (e :: es) X.env = (false, eval e X.env) :: starEach es X.env := by rfl) (hpl : (backTo pos (starEach es X.env)).any (·.1) = false := by rfl) : PE X (.Call (.Name x p) (e :: es) [] pos) (tCB r t) := by
  intro pins s σ H Q I h
  refine wpAny_Call_Name_kw (ld_blt I hg hm hv ?_ hn hdb)
  exact PyProof.Rows.callWith_type1 (thn (ha pos pins s σ H _ I h) fun us s1 ⟨vs, H1, I1, r1, q1⟩ => hc pins s1 σ H1 vs us Q I1 r1 q1) he hpl
end
end L2

namespace HT
open PySem PyProof.Rows

def lexLt : List Int → List Int → Bool
  | [], [] => false
  | [], _ :: _ => true
  | _ :: _, [] => false
  | x :: xs, y :: ys => if x = y then lexLt xs ys else decide (x < y)
theorem lexLt_cons (x y : Int) (xs ys : List Int) : lexLt (x :: xs) (y :: ys) = if x = y then lexLt xs ys else decide (x < y) := rfl
section
variable {prog : Program} {w : World} {A : Around} {E : Value → Shared → Prop} {s : Shared}

def sIx (n d : Nat) : Option Int → Nat
  | none => d
  | some v => if v < 0 then (v + (n : Int)).toNat else min v.toNat n
theorem sIx_none (n d : Nat) : sIx n d none = d := rfl
theorem sIx_nat (n d k : Nat) : sIx n d (some (k : Int)) = min k n := by
  show (if (k : Int) < 0 then ((k : Int) + (n : Int)).toNat else min (k : Int).toNat n) = min k n
  rw [if_neg (by omega), Int.toNat_natCast]
theorem sIx_le (n d : Nat) (hd : d ≤ n) (o : Option Int) : sIx n d o ≤ n := by
  cases o with
  | none => exact hd
  | some v =>
    show (if v < 0 then (v + (n : Int)).toNat else min v.toNat n) ≤ n
    by_cases hv : v < 0
    · rw [if_pos hv]; omega
    · rw [if_neg hv]; exact Nat.min_le_right _ _
theorem clip_eq (v : Int) (n d : Nat) : (if v < 0 then max (v + (n : Int)) 0 else min v (n : Int)) = ((sIx n d (some v) : Nat) : Int) := by
  show (if v < 0 then max (v + (n : Int)) 0 else min v (n : Int)) = (((if v < 0 then (v + (n : Int)).toNat else min v.toNat n) : Nat) : Int)
  by_cases hv : v < 0
  · simp only [if_pos hv]; omega
  · simp only [if_neg hv]; omega
theorem adjust_gen (lo hi : Option Int) (n : Nat) : Builtin.Slice.sliceAdjust lo hi 1 (n : Int) = (((sIx n 0 lo : Nat) : Int), ((sIx n n hi : Nat) : Int)) := by
  have h1 : ¬ ((1 : Int) < 0) := by omega
  unfold Builtin.Slice.sliceAdjust
  simp only [h1, if_false]
  refine Prod.ext ?_ ?_
  · cases lo with
    | none => rfl
    | some v => exact clip_eq v n 0
  · cases hi with
    | none => rfl
    | some v => exact clip_eq v n n
theorem places_gen (i j : Nat) : Builtin.Slice.slicePlaces (i : Int) (j : Int) 1 = j - i := by
  unfold Builtin.Slice.slicePlaces
  have h1 : (1 : Int) > 0 := by omega
  simp only [h1, if_true, Int.ediv_one]
  split <;> omega
theorem slicePart_ {v : Value} {o : Option Int} {Q : Option Int → Shared → Prop} (p : IsPart v o) (h : Q o s) : wpAny (model prog w) A (Builtin.Slice.slicePartIndex v) Q E s := by
  cases p with
  | none => exact slicePart_none h
  | int i t => exact slicePart_int h
theorem sliceApplied_gen {sl : Addr} {vl vu : Value} {lo hi : Option Int} {n : Nat} {Q : Int × Int × Nat → Shared → Prop} (hs : s.heap.IsSliceOf sl vl vu .none) (pl : IsPart vl lo) (pu : IsPart vu hi)
    (h : Q (((sIx n 0 lo : Nat) : Int), 1, sIx n n hi - sIx n 0 lo) s) : wpAny (model prog w) A (Builtin.Slice.sliceApplied (.ref sl) (pure (n : Int))) Q E s := by
  obtain ⟨os, hos, hcs, hds⟩ := id hs
  unfold Builtin.Slice.sliceApplied Builtin.Slice.sliceFields
  refine wpAny_bind (wpAny_bind (wpAny_field hos hds (x := vl) rfl (wpAny_bind (wpAny_field hos hds (x := vu) rfl (wpAny_bind (wpAny_field hos hds (x := .none) rfl (wpAny_pure ?_)))))))
  refine wpAny_bind (slicePart_none ?_)
  show wpAny _ _ (if ((1 : Int) == 0) = true then _ else _) _ _ s
  rw [if_neg (by decide)]
  refine wpAny_bind (slicePart_ pl (wpAny_bind (slicePart_ pu (wpAny_bind (wpAny_pure ?_)))))
  show wpAny _ _ (match Builtin.Slice.sliceAdjust lo hi 1 (n : Int) with | (lo, hi) => pure (lo, (1 : Int), Builtin.Slice.slicePlaces lo hi 1)) _ _ s
  rw [adjust_gen lo hi n]
  show wpAny _ _ (pure (((sIx n 0 lo : Nat) : Int), (1 : Int), Builtin.Slice.slicePlaces ((sIx n 0 lo : Nat) : Int) ((sIx n n hi : Nat) : Int) 1)) _ _ s
  rw [places_gen]
  exact wpAny_pure h
theorem pick_gen (xs : Array Value) (i k : Nat) : ((List.range k).filterMap fun (m : Nat) => xs[((i : Int) + (m : Int) * 1).toNat]?).toArray = ((xs.toList.drop i).take k).toArray := by
  have e : (fun (m : Nat) => xs[((i : Int) + (m : Int) * 1).toNat]?) = fun m => xs[i + m]? := by
    funext m
    have : ((i : Int) + (m : Int) * 1).toNat = i + m := by omega
    rw [this]
  rw [e]
  have := pick_run xs i k
  rw [List.filterMap_map] at this
  have e2 : ((fun x => xs[x]?) ∘ fun x => i + x) = fun m => xs[i + m]? := rfl
  rw [e2] at this
  rw [this]

theorem getItem_tuple_cut {t sl : Addr} {items : Array Value} {vl vu : Value} {lo hi : Option Int} {Q : Value → Shared → Prop} (ht : IsTup s.heap t items) (hs : s.heap.IsSliceOf sl vl vu .none) (pl : IsPart vl lo) (pu : IsPart vu hi)
    (hw : ¬ (sIx items.size 0 lo = 0 ∧ sIx items.size items.size hi = items.size))
    (h : Q (.ref s.heap.objs.size) { s with heap := s.heap.push { cls := .type "tuple", data := .seq ((items.toList.drop (sIx items.size 0 lo)).take (sIx items.size items.size hi - sIx items.size 0 lo)).toArray } })
    (hsz : items.size ≤ sizeLine) : wpAny (model prog w) A (getItem (.ref t) (.ref sl)) Q E s := by
  have htake : sizeOk (.seq ((items.toList.drop (sIx items.size 0 lo)).take (sIx items.size items.size hi - sIx items.size 0 lo)).toArray) := by
    show ((items.toList.drop (sIx items.size 0 lo)).take (sIx items.size items.size hi - sIx items.size 0 lo)).toArray.size ≤ sizeLine
    rw [List.size_toArray, List.length_take, List.length_drop, Array.length_toList]
    omega
  have hj : sIx items.size items.size hi ≤ items.size := sIx_le _ _ (Nat.le_refl _) hi
  obtain ⟨os, hos, hcs, hds⟩ := id hs
  have hTs : s.TypeIs (.ref sl) "slice" := ⟨os, hos, hcs⟩
  unfold getItem
  try with_reducible refine wpAny_holding ?_
  first | refine wpAny_bind (wpAny_pure ?_) | skip
  refine wpAny_bind (wpAny_sequenceKey ht.typeIs (by decide) ?_)
  refine wpAny_bind (wpAny_callSpecial?_slot (name := Str.ofString "__getitem__") ht.typeIs PyProof.Rows.slot_tuple_getitem
    (wpAny_call_entry PyProof.Rows.slot_tuple_getitem ht.typeIs entry_tuple_getitem ?_ (args_tuple_getitem _ _)))
  show wpAny _ _ (Builtin.Tuple.tupleItemsOf (.ref t) >>= _) _ _ s
  refine wpAny_bind (tupleItemsOf_ ht ?_)
  refine wpAny_bind (wpAny_typeOf hTs ?_)
  rw [if_pos (by decide)]
  refine wpAny_bind (sliceApplied_gen hs pl pu ?_)
  have hno : ¬ ((((sIx items.size 0 lo : Nat) : Int) == 0 && (1 : Int) == 1 && (sIx items.size items.size hi - sIx items.size 0 lo) == items.size) = true) := by
    intro q
    rw [Bool.and_eq_true, Bool.and_eq_true] at q
    have q1 : ((sIx items.size 0 lo : Nat) : Int) = 0 := eq_of_beq q.1.1
    have q2 : sIx items.size items.size hi - sIx items.size 0 lo = items.size := eq_of_beq q.2
    exact hw ⟨by omega, by omega⟩
  show wpAny _ _ (if (((sIx items.size 0 lo : Nat) : Int) == 0 && (1 : Int) == 1 && (sIx items.size items.size hi - sIx items.size 0 lo) == items.size) = true then _ else _) _ _ s
  rw [if_neg hno, pick_gen]
  first
    | exact wpAny_bind (m := Builtin.Tuple.tupleExact _) (wpAny_newObj_type (wpAny_pure ⟨_, rfl, wpAny_pure h⟩) htake)
    | exact wpAny_bind (m := Builtin.Tuple.tupleExact _) (wpAny_newObj_type (wpAny_bind (wpAny_pure (wpAny_pure ⟨_, rfl, wpAny_pure h⟩))) htake)
    | exact wpAny_bind (wpAny_bind (m := Builtin.Tuple.tupleExact _) (wpAny_newObj_type (wpAny_pure (wpAny_pure ⟨_, rfl, wpAny_pure h⟩)) htake))
    | exact wpAny_bind (wpAny_bind (m := Builtin.Tuple.tupleExact _) (wpAny_newObj_type (wpAny_pure ⟨_, rfl, wpAny_pure h⟩) htake))
end
end HT

namespace L2
open PySem PySem.Spec PyProof.Rows

abbrev TO := St → Hp → (Option Int → Hp → Prop) → Prop
def PO (X : Cx) (e : Option Expr) (t : TO) : Prop :=
  ∀ (pins : List (Addr × Obj)) (s : Shared) (σ : St) (H : Hp) (Q : Option Int → Hp → Prop), Inv X pins σ H s → t σ H Q →
    wpAny (model X.prog X.w) X.A (evalPart e X.env) (fun u s' => ∃ o H', Inv X pins σ H' s' ∧ IsPart u o ∧ Q o H') X.xe s
def tNoPart : TO := fun _ H Q => Q none H
def tPart (t : TE) : TO := fun σ H Q => t σ H fun x H1 => ∃ i, x = .int i ∧ Q (some i) H1

theorem intsAre_of {ns : List Int} : ∀ {us : List Value}, Vals (ns.map V.int) us → IntsAre us ns := by
  induction ns with
  | nil => intro us r; rw [List.map_nil] at r; cases r; exact .nil
  | cons n ns ih =>
    intro us r
    rw [List.map_cons] at r
    cases r with
    | cons r1 r2 =>
      obtain ⟨t, e⟩ := r1
      subst e
      exact .cons n t (ih r2)

section
variable {X : Cx} {e : Expr} {te : TE} {lo hi : Option Expr} {tl th : TO} {pos p2 : Pos}

theorem po_none : PO X none tNoPart := by
  intro pins s σ H Q I h
  rw [evalPart_none]
  exact wpAny_pure ⟨none, H, I, .none, h⟩
theorem po_some (h : PE X e te) : PO X (some e) (tPart te) := by
  intro pins s σ H Q I hw
  rw [evalPart_some]
  refine thn (h pins s σ H _ I hw) fun u s1 ⟨x, H1, I1, r1, q1⟩ => ?_
  obtain ⟨i, rfl, q⟩ := q1
  obtain ⟨t, rfl⟩ := r1
  exact ⟨some i, H1, I1, .int i t, q⟩

def SlR (X : Cx) (r : V → Option Int → Option Int → Hp → VK → Prop) : Prop :=
  ∀ (pins : List (Addr × Obj)) (s : Shared) (σ : St) (H : Hp) (x : V) (v vl vu : Value) (lo hi : Option Int) (sl : Addr) (Q : VK), Inv X pins σ H s → RelV x v → s.heap.IsSliceOf sl vl vu .none → IsPart vl lo → IsPart vu hi → r x lo hi H Q →
    ∃ T id, typeLookup (.type T) "__getitem__" = pure (some (.builtin id)) ∧ s.TypeIs v T ∧ wpAny (model X.prog X.w) X.A (getItem v (.ref sl)) (EP X pins σ Q) X.xe s
def tSl (r : V → Option Int → Option Int → Hp → VK → Prop) (te : TE) (tl th : TO) : TE := fun σ H Q => te σ H fun x H1 => tl σ H1 fun l H2 => th σ H2 fun u H3 => r x l u H3 Q
theorem pe_slice {r : V → Option Int → Option Int → Hp → VK → Prop} (hr : SlR X r) (he : PE X e te) (hl : PO X lo tl) (hu : PO X hi th) : PE X (.Subscript e (.Slice lo hi none p2) pos) (tSl r te tl th) := by
  intro pins s σ H Q I h
  refine Subscript_ (thn (he pins s σ H _ I h) fun v s1 ⟨x, H1, I1, r1, q1⟩ => ?_)
  refine wpAny_Slice (thn (hl pins s1 σ H1 _ I1 q1) fun vl s2 ⟨l, H2, I2, pl, q2⟩ => thn (hu pins s2 σ H2 _ I2 q2) fun vu s3 ⟨u, H3, I3, pu, q3⟩ => ?_)
  rw [evalPart_none]
  refine wpAny_pure ?_
  have I4 : Inv X pins σ H3 { s3 with heap := s3.heap.push { cls := .type "slice", data := .fields #[vl, vu, .none] } } := I3.kept (t' := s3.toks) fun b ob q => Heap.get?_push_of_some _ q
  obtain ⟨T, id, hT, ht, hg⟩ := hr pins { s3 with heap := s3.heap.push { cls := .type "slice", data := .fields #[vl, vu, .none] } } σ H3 x v vl vu l u s3.heap.objs.size Q I4 r1 (Heap.IsSliceOf.new ..) pl pu q3
  show wpAny (model X.prog X.w) X.A (subscriptTail e (.Slice lo hi none p2) v (.ref s3.heap.objs.size)) (EP X pins σ Q) X.xe { s3 with heap := s3.heap.push { cls := .type "slice", data := .fields #[vl, vu, .none] } }
  exact tail_any (ops := [.ref s3.heap.objs.size, v]) ht hT hg (by with_unfolding_all rfl)

def cutV (xs : List V) (lo hi : Option Int) : List V := (xs.drop (HT.sIx xs.length 0 lo)).take (HT.sIx xs.length xs.length hi - HT.sIx xs.length 0 lo)
theorem cutV_length (xs : List V) (lo hi : Option Int) : (cutV xs lo hi).length ≤ xs.length := by
  unfold cutV
  rw [List.length_take, List.length_drop]
  omega
def rSlT (K : PySem.W.Frag) : V → Option Int → Option Int → Hp → VK → Prop := fun x lo hi H Q => ∃ a xs, x = .ref a ∧ SqT K H a xs ∧
  ¬ (HT.sIx xs.length 0 lo = 0 ∧ HT.sIx xs.length xs.length hi = xs.length) ∧ ∀ p, H p = none → Q (.ref p) (upd H p (.tup (cutV xs lo hi)))
theorem sl_tup : SlR X (rSlT X.K) := by
  intro pins s σ H x v vl vu lo hi sl Q I rx hs pl pu h
  obtain ⟨a, xs, rfl, hx, hw, q⟩ := h
  cases rx
  obtain ⟨its, r, ht, hz⟩ := I.tuple hx
  have hlen : its.toArray.size = xs.length := by rw [List.size_toArray]; exact r.length.symm
  refine ⟨"tuple", _, PyProof.Rows.slot_tuple_getitem.lookup, ht.typeIs, ?_⟩
  refine HT.getItem_tuple_cut ht hs pl pu (by rw [hlen]; exact hw) ?_ (by rw [hlen]; exact hz)
  rw [hlen]
  refine ⟨.ref s.heap.objs.size, _, I.laid (t' := s.toks) (o := .tup (cutV xs lo hi)) (fun b ob q => Heap.get?_push_of_some _ q) (Nat.le_refl _) ?_, rfl, q _ (I.hok.fresh (Nat.le_refl _))⟩
  exact ⟨Nat.le_trans (cutV_length xs lo hi) hz, _, (r.drop (HT.sIx xs.length 0 lo)).take (HT.sIx xs.length xs.length hi - HT.sIx xs.length 0 lo), IsTup.new _ _⟩

end
end L2

namespace L2
open PySem PySem.Spec PyProof.Rows

def ixN (n : Nat) (i : Int) : Option Nat := if 0 ≤ i then (if i < n then some i.toNat else none) else if -(n : Int) ≤ i then some (i + n).toNat else none
def atI {α : Type} (xs : List α) (i : Int) : Option α := (ixN xs.length i).bind fun j => xs[j]?
theorem ixN_seq {n : Nat} {i : Int} {j : Nat} (h : ixN n i = some j) : seqIndex? i n = some j ∧ j < n ∧ -(n : Int) ≤ i ∧ i < n := by
  unfold ixN at h
  by_cases h0 : 0 ≤ i
  · rw [if_pos h0] at h
    by_cases h1 : i < n
    · rw [if_pos h1] at h
      have e : i.toNat = j := Option.some.inj h
      exact ⟨by rw [seqIndex_of h0 h1, e], by omega, by omega, h1⟩
    · rw [if_neg h1] at h; cases h
  · rw [if_neg h0] at h
    by_cases h1 : -(n : Int) ≤ i
    · rw [if_pos h1] at h
      have e : (i + n).toNat = j := Option.some.inj h
      exact ⟨by rw [seqIndex_neg (by omega) h1, e], by omega, h1, by omega⟩
    · rw [if_neg h1] at h; cases h
theorem atI_get {α : Type} {xs : List α} {i : Int} {v : α} (h : atI xs i = some v) : ∃ j, seqIndex? i xs.length = some j ∧ xs[j]? = some v ∧ j < xs.length ∧ -(xs.length : Int) ≤ i ∧ i < xs.length := by
  unfold atI at h
  cases e : ixN xs.length i with
  | none => rw [e] at h; cases h
  | some j =>
    rw [e] at h
    obtain ⟨h1, h2, h3, h4⟩ := ixN_seq e
    exact ⟨j, h1, h, h2, h3, h4⟩
theorem atI_nat {α : Type} {xs : List α} {j : Nat} {v : α} (h : xs[j]? = some v) : atI xs (j : Int) = some v := by
  have hj : j < xs.length := (List.getElem?_eq_some_iff.mp h).1
  have e : ixN xs.length (j : Int) = some j := by
    unfold ixN
    rw [if_pos (by omega), if_pos (by omega)]; simp
  unfold atI; rw [e]; exact h
def PlainIx (b : Expr) : Prop := ∀ o i, subscripted b false o i = operate [o, i] (getItem o i)
def IxR (X : Cx) (r : R2) : Prop :=
  ∀ (value slice : Expr) (pins : List (Addr × Obj)) (s : Shared) (σ : St) (H : Hp) (x y : V) (v u : Value) (Q : VK), Inv X pins σ H s → RelV x v → RelV y u → r x y H Q →
    subscripted slice false v u = operate [v, u] (getItem v u) → wpAny (model X.prog X.w) X.A (subscriptTail value slice v u) (EP X pins σ Q) X.xe s
def MtR (X : Cx) (id : String) (r : V → List V → Hp → VK → Prop) : Prop :=
  ∀ (pins : List (Addr × Obj)) (s : Shared) (σ : St) (H : Hp) (x : V) (xs : List V) (v : Value) (us : List Value) (Q : VK), Inv X pins σ H s → RelV x v → Vals xs us → r x xs H Q →
    wpAny (model X.prog X.w) X.A (call (.builtin id) (v :: us)) (EP X pins σ Q) X.xe s
section
variable {X : Cx} {a b : Expr} {ta tb : TE} {pos : Pos}
theorem pe_ix {r : R2} (hr : IxR X r) (ha : PE X a ta) (hb : PE X b tb) (hs : PlainIx b) : PE X (.Subscript a b pos) (tOp r ta tb) := by
  intro pins s σ H Q I h
  exact Subscript_ (binT ha hb I h fun v u s2 x y H2 I2 rx ry q => hr a b pins s2 σ H2 x y v u Q I2 rx ry q (hs _ _))

def rIxL (K : PySem.W.Frag) : R2 := fun x y H Q => ∃ p xs i v, x = .ref p ∧ y = .int i ∧ SqL K H p xs ∧ atI xs i = some v ∧ Q v H
def rIxT (K : PySem.W.Frag) : R2 := fun x y H Q => ∃ p xs i v, x = .ref p ∧ y = .int i ∧ SqT K H p xs ∧ atI xs i = some v ∧ Q v H
theorem ix_list : IxR X (rIxL X.K) := by
  intro value slice pins s σ H x y v u Q I rx ry h hs
  obtain ⟨p, xs, i, z, rfl, rfl, hq, he, q⟩ := h
  cases rx
  obtain ⟨t, rfl⟩ := ry
  obtain ⟨its, r, pl, hz⟩ := I.list hq
  obtain ⟨j, h1, h2, h3, h4, h5⟩ := atI_get he
  obtain ⟨w, ew, rw'⟩ := r.get h2
  have hl := r.length
  have hn := line63
  have fin : EP X pins σ Q w s := ⟨z, H, I, rw', q⟩
  by_cases h0 : 0 ≤ i
  · have hj : i.toNat = j := by
      rw [seqIndex_of h0 h5] at h1
      exact Option.some.inj h1
    exact item_listR pl.isList h0 (by omega) (by rw [hj]; simpa using ew) fin hs
  · have hj : (i + (its.toArray.size : Int)).toNat = j := by
      rw [seqIndex_neg (by omega) h4] at h1
      rw [List.size_toArray, ← hl]
      exact Option.some.inj h1
    exact subscriptTail_builtinR (x := w) pl.isList.typeIs slot_list_getitem.lookup
      (wpAny_getItem_list_neg (Q := fun r s' => r = w ∧ EP X pins σ Q r s') pl.isList (by omega) (by rw [List.size_toArray] <;> omega) (by omega) (by rw [hj]; simpa using ew) ⟨rfl, fin⟩) hs
theorem ix_tup : IxR X (rIxT X.K) := by
  intro value slice pins s σ H x y v u Q I rx ry h hs
  obtain ⟨p, xs, i, z, rfl, rfl, hq, he, q⟩ := h
  cases rx
  obtain ⟨t, rfl⟩ := ry
  obtain ⟨its, r, pl, hz⟩ := I.tuple hq
  obtain ⟨j, h1, h2, h3, h4, h5⟩ := atI_get he
  obtain ⟨w, ew, rw'⟩ := r.get h2
  have hl := r.length
  have hn := line63
  have fin : EP X pins σ Q w s := ⟨z, H, I, rw', q⟩
  exact subscriptTail_builtinR (x := w) pl.typeIs slot_tuple_getitem.lookup
    (getItem_tuple (j := j) (Q := fun r s' => r = w ∧ EP X pins σ Q r s') pl (by omega) (by omega) (by rw [List.size_toArray, ← hl]; exact h1) (by simpa using ew) ⟨rfl, fin⟩) hs
def flatV : V → Bool
  | .non => true
  | .bl _ => true
  | .int _ => true
  | .str _ => true
  | _ => false
def eqV : V → V → Bool
  | .non, .non => true
  | .bl a, .bl b => a == b
  | .bl a, .int b => (if a then 1 else 0) == b
  | .int a, .bl b => a == (if b then 1 else 0)
  | .int a, .int b => a == b
  | .str a, .str b => a == b
  | _, _ => false
theorem eqAt_V {A : Around} {s : Shared} {y x : V} {u v : Value} (ry : RelV y u) (rx : RelV x v) (fy : flatV y = true) (fx : flatV x = true) : SeqAt.EqAt A s u v (eqV y x) := by
  cases y with
  | non =>
    cases ry
    cases x with
    | non => cases rx; exact SeqAt.EqAt.same _
    | bl b => cases rx; exact SeqAt.EqAt.none_bool b
    | int b => obtain ⟨t, rfl⟩ := rx; exact SeqAt.EqAt.none_int b t
    | str b => obtain ⟨t, rfl⟩ := rx; exact SeqAt.EqAt.none_str b t
    | _ => exact absurd (show false = true from fx) Bool.false_ne_true
  | bl a =>
    cases ry
    cases x with
    | non => cases rx; exact SeqAt.EqAt.bool_none a
    | bl b => cases rx; exact SeqAt.EqAt.bool_bool a b
    | int b => obtain ⟨t, rfl⟩ := rx; exact SeqAt.EqAt.bool_int a b t
    | str b => obtain ⟨t, rfl⟩ := rx; exact SeqAt.EqAt.bool_str a b t
    | _ => exact absurd (show false = true from fx) Bool.false_ne_true
  | int a =>
    obtain ⟨t', rfl⟩ := ry
    cases x with
    | non => cases rx; exact SeqAt.EqAt.int_none a t'
    | bl b => cases rx; exact SeqAt.EqAt.int_bool a t' b
    | int b => obtain ⟨t, rfl⟩ := rx; exact SeqAt.EqAt.int_int a t' b t
    | str b => obtain ⟨t, rfl⟩ := rx; exact SeqAt.EqAt.int_str a t' b t
    | _ => exact absurd (show false = true from fx) Bool.false_ne_true
  | str a =>
    obtain ⟨t', rfl⟩ := ry
    cases x with
    | non => cases rx; exact SeqAt.EqAt.str_none a t'
    | bl b => cases rx; exact SeqAt.EqAt.str_bool a t' b
    | int b => obtain ⟨t, rfl⟩ := rx; exact SeqAt.EqAt.str_int a t' b t
    | str b => obtain ⟨t, rfl⟩ := rx; exact SeqAt.EqAt.str_str a t' b t
    | _ => exact absurd (show false = true from fx) Bool.false_ne_true
  | _ => exact absurd (show false = true from fy) Bool.false_ne_true
def eqU (x : V) (u : Value) : Bool := match u with
  | .none => eqV .non x
  | .bool b => eqV (.bl b) x
  | .int i _ => eqV (.int i) x
  | .str z _ => eqV (.str z) x
  | _ => false
theorem eqU_of {x y : V} {u : Value} (r : RelV y u) (f : flatV y = true) : eqU x u = eqV y x := by
  cases y with
  | non => cases r; rfl
  | bl b => cases r; rfl
  | int i => obtain ⟨t, rfl⟩ := r; rfl
  | str z => obtain ⟨t, rfl⟩ := r; rfl
  | _ => exact absurd (show false = true from f) Bool.false_ne_true
theorem any_eqU {x : V} : ∀ {xs : List V} {us : List Value}, Vals xs us → xs.all flatV = true → us.any (eqU x) = xs.any fun y => eqV y x
  | _, _, .nil, _ => rfl
  | y :: xs, u :: us, .cons r t, f => by
    rw [List.all_cons, Bool.and_eq_true] at f
    rw [List.any_cons, List.any_cons, eqU_of r f.1, any_eqU t f.2]
theorem mem_eqAt {A : Around} {s : Shared} {x : V} {v : Value} (rx : RelV x v) (fx : flatV x = true) : ∀ {xs : List V} {us : List Value}, Vals xs us → xs.all flatV = true → ∀ u ∈ us, SeqAt.EqAt A s u v (eqU x u)
  | _, _, .nil, _ => fun u hu => by cases hu
  | y :: xs, u :: us, .cons r t, f => fun u' hu => by
    rw [List.all_cons, Bool.and_eq_true] at f
    rcases List.mem_cons.mp hu with rfl | hu
    · rw [eqU_of r f.1]; exact eqAt_V r rx f.1 fx
    · exact mem_eqAt rx fx t f.2 u' hu
def inV (x : V) (xs : List V) : Bool := xs.any fun y => eqV y x
def rIn (K : PySem.W.Frag) (neg : Bool) : R2 := fun x y H Q => ∃ p xs, y = .ref p ∧ (SqL K H p xs ∨ SqT K H p xs) ∧ flatV x = true ∧ xs.all flatV = true ∧ Q (.bl (if neg then !inV x xs else inV x xs)) H
theorem op_notIn_seq : OpR X (compareOp .NotIn) (rIn X.K true) := by
  intro pins s σ H x y v u Q I rx ry h
  obtain ⟨p, xs, rfl, hq, fx, fs, q⟩ := h
  cases ry
  rcases hq with hq | hq
  · obtain ⟨its, r, pl, hz⟩ := I.list hq
    refine SeqAt.notIn_listAt (eqU x) pl.isList (fun w hw => mem_eqAt rx fx r fs w (by simpa using hw)) ⟨.bl _, H, I, rfl, ?_⟩
    rw [show its.toArray.any (eqU x) = its.any (eqU x) by simp, any_eqU r fs]
    exact q
  · obtain ⟨its, r, pl, hz⟩ := I.tuple hq
    refine SeqAt.notIn_tupleAt (eqU x) pl (fun w hw => mem_eqAt rx fx r fs w (by simpa using hw)) ⟨.bl _, H, I, rfl, ?_⟩
    rw [show its.toArray.any (eqU x) = its.any (eqU x) by simp, any_eqU r fs]
    exact q
theorem call_len_seq : CallR X (.builtin "len") (fun xs H Q => ∃ p ys, xs = [.ref p] ∧ (SqL X.K H p ys ∨ SqT X.K H p ys) ∧ Q (.int ys.length) H) := by
  intro pins s σ H xs us Q I r h
  obtain ⟨p, ys, rfl, hq, q⟩ := h
  obtain ⟨u, rfl, rx⟩ := vals1 r
  cases rx
  have hn := line63
  rcases hq with hq | hq
  · obtain ⟨its, r', pl, hz⟩ := I.list hq
    have hlen := r'.length
    exact Calls.call_len_list pl.isList (by simp only [List.size_toArray] <;> omega) ⟨.int ys.length, H, I.tok _, ⟨s.toks + 1, by rw [List.size_toArray, hlen]⟩, q⟩
  · obtain ⟨its, r', pl, hz⟩ := I.tuple hq
    have hlen := r'.length
    exact len_tuple pl (by simp only [List.size_toArray] <;> omega) ⟨.int ys.length, H, I.tok _, ⟨s.toks + 1, by rw [List.size_toArray, hlen]⟩, q⟩
theorem call_list_of : CallR X (.type "list") (fun xs H Q => ∃ p ys, xs = [.ref p] ∧ (SqL X.K H p ys ∨ SqT X.K H p ys) ∧ ∀ l, H l = none → Q (.ref l) (upd H l (.lst ys))) := by
  intro pins s σ H xs us Q I r h
  obtain ⟨p, ys, rfl, hq, q⟩ := h
  obtain ⟨u, rfl, rx⟩ := vals1 r
  cases rx
  have fin : ∀ (its : List Value), Vals ys its → ys.length ≤ sizeLine → ∀ (h' : Heap) (c' : Nat), (∀ b o', s.heap.get? b = some o' → h'.get? b = some o') →
      h'.get? s.heap.objs.size = some { cls := .type "list", dict := none, data := .seq its.toArray c', slots := #[] } → EP X pins σ Q (.ref s.heap.objs.size) { s with heap := h' } := fun its r' hz h' c' kp e =>
    ⟨.ref s.heap.objs.size, _, I.laid (t' := s.toks) kp (Nat.le_refl _) (show ObjOk X.prog X.w _ h' _ (.lst ys) from ⟨hz, its, c', r', e⟩), rfl, q _ (I.hok.fresh (Nat.le_refl _))⟩
  rcases hq with hq | hq
  · obtain ⟨its, r', pl, hz⟩ := I.list hq
    have hlen := r'.length
    obtain ⟨o, ho, hc, n, hd⟩ := pl.isList
    exact call_list_seq p (.inl rfl) ho hc hd (fun h' c' kp e => fin its r' hz h' c' kp e) (by simp only [List.size_toArray] <;> omega)
  · obtain ⟨its, r', pl, hz⟩ := I.tuple hq
    have hlen := r'.length
    obtain ⟨o, ho, hc, n, hd⟩ := pl
    exact call_list_seq p (.inr rfl) ho hc hd (fun h' c' kp e => fin its r' hz h' c' kp e) (by simp only [List.size_toArray] <;> omega)
theorem call_tuple_of : CallR X (.type "tuple") (fun xs H Q => ∃ p ys, xs = [.ref p] ∧ ((SqL X.K H p ys ∧ ∀ l, H l = none → Q (.ref l) (upd H l (.tup ys))) ∨ (SqT X.K H p ys ∧ Q (.ref p) H))) := by
  intro pins s σ H xs us Q I r h
  obtain ⟨p, ys, rfl, h⟩ := h
  obtain ⟨u, rfl, rx⟩ := vals1 r
  cases rx
  rcases h with ⟨hq, q⟩ | ⟨hq, q⟩
  · obtain ⟨its, r', pl, hz⟩ := I.list hq
    have hlen := r'.length
    refine call_tuple_list pl.isList (fun h' kp => ?_) (by simp only [List.size_toArray] <;> omega)
    have I1 : Inv X pins σ H { s with heap := h' } := I.kept (t' := s.toks) kp
    have I2 : Inv X pins σ (upd H h'.objs.size (.tup ys)) { s with heap := h'.push { cls := .type "tuple", data := .seq its.toArray } } :=
      I1.laid (t' := s.toks) (fun b o e => Heap.get?_push_of_some _ e) (Nat.le_refl _) (show ObjOk X.prog X.w _ _ _ (.tup ys) from ⟨hz, its, r', IsTup.new _ _⟩)
    exact ⟨.ref h'.objs.size, _, I2, rfl, q _ (I1.hok.fresh (Nat.le_refl _))⟩
  · obtain ⟨its, r', pl, hz⟩ := I.tuple hq
    exact call_tuple_same pl ⟨.ref p, H, I, rfl, q⟩

def tyV (K : PySem.W.Frag) (T : String) (x : V) (H : Hp) : Prop := match x with
  | .str _ => T = "str"
  | .int _ => T = "int"
  | .ref p => (T = "list" ∧ ∃ xs, SqL K H p xs) ∨ (T = "tuple" ∧ ∃ o, K.lookup p = some o ∧ o.cls = .type "tuple" ∧ o.dict = none) ∨
      (T = "dict" ∧ ((∃ kvs, H p = some (.dK kvs)) ∨ ∃ kvs, H p = some (.dT kvs))) ∨ (T = "set" ∧ ∃ S n, H p = some (.set S n))
  | _ => False
theorem tyV_is {pins : List (Addr × Obj)} {σ : St} {H : Hp} {s : Shared} {T : String} {x : V} {v : Value} (I : Inv X pins σ H s) (r : RelV x v) (ty : tyV X.K T x H) :
    s.TypeIs v T ∧ ∀ a, v = .ref a → ∃ ob, s.heap.get? a = some ob ∧ ob.dict = none := by
  cases x with
  | str z =>
    obtain ⟨t, rfl⟩ := r
    cases (show T = "str" from ty)
    exact ⟨typeIs_str s z t, fun _ e => nomatch e⟩
  | int i =>
    obtain ⟨t, rfl⟩ := r
    cases (show T = "int" from ty)
    exact ⟨typeIs_int s i t, fun _ e => nomatch e⟩
  | ref p =>
    cases r
    rcases ty with ⟨rfl, xs, hq⟩ | ⟨rfl, o, hk, hc, hd⟩ | ⟨rfl, hk⟩ | ⟨rfl, S, n, hk⟩
    · obtain ⟨its, _, pl, _⟩ := I.list hq
      refine ⟨pl.isList.typeIs, fun a e => ?_⟩
      cases e
      obtain ⟨o, n, e, c, hd, _⟩ := pl
      exact ⟨o, e, hd⟩
    · refine ⟨⟨o, I.kIn p o hk, hc⟩, fun a e => ?_⟩
      cases e
      exact ⟨o, I.kIn _ o hk, hd⟩
    · have z : ∃ o, s.heap.get? p = some o ∧ o.ExactDict := by
        rcases hk with ⟨kvs, hk⟩ | ⟨kvs, hk⟩
        · obtain ⟨_, _, _, _, o, _, _, e, ex, _⟩ := I.hok p _ hk
          exact ⟨o, e, ex⟩
        · obtain ⟨_, _, _, _, o, _, _, e, ex, _⟩ := I.hok p _ hk
          exact ⟨o, e, ex⟩
      obtain ⟨o, e, ex⟩ := z
      refine ⟨⟨o, e, ex.1⟩, fun a e2 => ?_⟩
      cases e2
      exact ⟨o, e, ex.2.1⟩
    · obtain ⟨o, _, _, _, e, ex, _⟩ := I.hok p _ hk
      refine ⟨⟨o, e, ex.1⟩, fun a e2 => ?_⟩
      cases e2
      exact ⟨o, e, ex.2.1⟩
  | _ => exact False.elim ty
def tBM (K : PySem.W.Frag) (T : String) (r : V → List V → Hp → VK → Prop) (to : TE) (t : TA) : TE := fun σ H Q => to σ H fun x H1 => tyV K T x H1 ∧ t σ H1 fun xs H2 => r x xs H2 Q
variable {o e : Expr} {es : List Expr} {to : TE} {t : TA} {name : Str} {apos cpos : Pos} {T id : String} {r : V → List V → Hp → VK → Prop}
theorem pe_bm (pa : PlainAttrs T) (slot : Slot T name id) (hty : typeOf (.builtin id) = pure (.type "method_descriptor")) (hm : MtR X id r) (ho : PE X o to) (ha : PA X (e :: es) t)
    (hbase : attributeBase o name X.env (eval o X.env) = eval o X.env := by rfl)
    (hfew : ((backTo cpos (starEach (e :: es) X.env)).all (fun x => !x.1) && (backToKw cpos (keywordEach [] X.env)).all (fun x => x.1.isSome)
      && decide ((e :: es).length + ([] : List Keyword).length + (if ([] : List Keyword).isEmpty then 0 else 1) < 30)) = true := by rfl)
    (hline : (apos.endLine == cpos.line) = true := by rfl) (hs : starEach (e :: es) X.env = (false, eval e X.env) :: starEach es X.env := by rfl) (hplain : (backTo cpos (starEach es X.env)).any (·.1) = false := by rfl) :
    PE X (.Call (.Attribute o name apos) (e :: es) [] cpos) (tBM X.K T r to t) := by
  intro pins s σ H Q I h
  refine wpAny_Call_method_late hbase hfew hline rfl (thn (ho pins s σ H _ I h) fun v s1 ⟨x, H1, I1, r1, ty, q1⟩ => ?_)
  obtain ⟨h1, h2⟩ := tyV_is I1 r1 ty
  refine ⟨T, id, pa, slot, hty, h1, h2, ?_⟩
  have hA := ha cpos pins s1 σ H1 _ I1 q1
  rw [hs] at hA ⊢
  refine Calls.callWith_builtin (by show (false || (backTo cpos (starEach es X.env)).any (·.1)) = false; rw [hplain] <;> rfl) (Calls.evalArgs_plain ?_)
  exact thn hA fun us s2 ⟨vs, H2, I2, r2, q2⟩ => hm pins s2 σ H2 x vs v us Q I2 r1 r2 q2
end
end L2

namespace L2
open PySem PySem.Spec PyProof.Rows

def MtM (X : Cx) (id : String) (r : V → List V → Hp → VK → Prop) : Prop :=
  ∀ (pins : List (Addr × Obj)) (s : Shared) (σ : St) (H : Hp) (x : V) (xs : List V) (v : Value) (us : List Value) (Q : VK), Inv X pins σ H s → RelV x v → Vals xs us → r x xs H Q →
    wpAny (model X.prog X.w) X.A (call (.builtin id) (v :: us)) (EP X pins σ Q) X.xe s

theorem Vals.one : ∀ {x : V} {us : List Value}, Vals [x] us → ∃ u, us = [u] ∧ RelV x u
  | _, _, .cons r .nil => ⟨_, rfl, r⟩
theorem Vals.eraseIdx : ∀ {xs : List V} {us : List Value} (i : Nat), Vals xs us → Vals (xs.eraseIdx i) (us.eraseIdx i)
  | _, _, _, .nil => .nil
  | _, _, 0, .cons _ t => t
  | _, _, i + 1, .cons r t => .cons r (Vals.eraseIdx i t)
theorem len_erase {α : Type} : ∀ (l : List α) (i : Nat), (l.eraseIdx i).length ≤ l.length
  | [], _ => Nat.le_refl _
  | _ :: _, 0 => Nat.le_succ _
  | _ :: r, i + 1 => Nat.succ_le_succ (len_erase r i)
section
variable {X : Cx} {pins : List (Addr × Obj)} {σ : St} {H : Hp} {s : Shared} {l b : Addr} {xs ys zs : List V}

theorem Inv.lset {its its' : List Value} {n : Nat} {f : Array Value → Array Value} {t' : Nat} (I : Inv X pins σ H s) (hH : H l = some (.lst xs))
    (e : s.heap.get? l = some { cls := .type "list", data := .seq its.toArray n }) (hf : f its.toArray = its'.toArray) (hv : Vals ys its') (hz : ys.length ≤ sizeLine) :
    Inv X pins σ (upd H l (.lst ys)) { s with heap := s.heap.update l (Obj.mapSeq f), toks := t' } := by
  have q := PySem.IsL.update e f
  rw [hf] at q
  refine I.write (x := l) (e := l) (by rw [hH]; exact trivial) (.inl rfl) (fun b' u hb hu => (Heap.get?_update_other s.heap (Obj.mapSeq f) (Ne.symm hb)).trans hu) ⟨_, q⟩ ?_
  exact ⟨hz, its', _, hv, q⟩
theorem Inv.lnew {its : List Value} {t' : Nat} (I : Inv X pins σ H s) (hv : Vals ys its) (hz : ys.length ≤ sizeLine) :
    Inv X pins σ (upd H s.heap.objs.size (.lst ys)) { s with heap := s.heap.push { cls := .type "list", data := .seq its.toArray }, toks := t' } :=
  I.laid (fun _ _ q => Heap.get?_push_of_some _ q) (Nat.le_refl _) ⟨hz, its, 0, hv, Heap.get?_push_size _ rfl⟩
theorem Inv.fresh (I : Inv X pins σ H s) : H s.heap.objs.size = none := I.hok.fresh (Nat.le_refl _)
theorem Inv.lstM (I : Inv X pins σ H s) (hH : H l = some (.lst xs)) : xs.length ≤ sizeLine ∧ ∃ (its : List Value) (n : Nat), Vals xs its ∧ xs.length = its.length ∧ s.heap.get? l = some { cls := .type "list", data := .seq its.toArray n } := by
  obtain ⟨z, its, n, r, e⟩ := I.hok l _ hH
  exact ⟨z, its, n, r, r.length, e⟩

theorem notLongL {n : Nat} (h : n ≤ sizeLine) : Builtin.List.listTooLong n = false := by
  unfold Builtin.List.listTooLong
  exact decide_eq_false (by omega)
end

section
variable {X : Cx}

def rAppend : V → List V → Hp → VK → Prop := fun x vs H Q => ∃ l xs y, x = .ref l ∧ vs = [y] ∧ H l = some (.lst xs) ∧ xs.length < sizeLine ∧ Q .non (upd H l (.lst (xs ++ [y])))
theorem mt_append : MtM X "list.append" rAppend := by
  intro pins s σ H x vs v us Q I rx rv h
  obtain ⟨l, xs, y, rfl, rfl, hH, hz, q⟩ := h
  cases rx
  obtain ⟨u, rfl, ru⟩ := rv.one
  obtain ⟨z, its, n, r, hl, e⟩ := I.lstM hH
  refine call_meets F.slot_list_append ⟨_, e, rfl⟩ F.entry_list_append (F.args_list_append_2 _ _) (PySem.list_append l its.toArray n u (by rw [List.size_toArray]; omega)) ⟨e, ?_⟩
  refine ⟨.non, _, I.lset (its' := its ++ [u]) hH e (by simp) (r.append (.cons ru .nil)) ?_, rfl, q⟩
  rw [List.length_append, List.length_singleton]
  omega

def rExtend : V → List V → Hp → VK → Prop := fun x vs H Q => ∃ l b xs zs, x = .ref l ∧ vs = [.ref b] ∧ H l = some (.lst xs) ∧ H b = some (.lst zs) ∧ xs.length + zs.length ≤ sizeLine ∧ Q .non (upd H l (.lst (xs ++ zs)))
theorem mt_extend : MtM X "list.extend" rExtend := by
  intro pins s σ H x vs v us Q I rx rv h
  obtain ⟨l, b, xs, zs, rfl, rfl, hH, hB, hz, q⟩ := h
  cases rx
  obtain ⟨u, rfl, ru⟩ := rv.one
  cases ru
  obtain ⟨z, its, n, r, hl, e⟩ := I.lstM hH
  obtain ⟨z2, its2, n2, r2, hl2, e2⟩ := I.lstM hB
  have hsz : its.toArray.size + its2.toArray.size ≤ sizeLine := by rw [List.size_toArray, List.size_toArray]; omega
  have hlong : ¬ (!its.toArray.isEmpty && Builtin.List.listTooLong (its.toArray.size + its2.toArray.size)) = true := by
    rw [notLongL hsz, Bool.and_false]
    exact Bool.false_ne_true
  refine call_meets F.slot_list_extend ⟨_, e, rfl⟩ F.entry_list_extend (F.args_list_extend_2 _ _)
    (AutoSeq1.list_extend_list_list_0 l its.toArray n b its2.toArray n2 hlong (by rw [List.size_toArray]; omega) (by omega)) ⟨e, e2, ?_⟩
  refine ⟨.non, _, I.lset (its' := its ++ its2) hH e (by simp) (r.append r2) ?_, rfl, q⟩
  rw [List.length_append]
  omega

def rPopAt : V → List V → Hp → VK → Prop := fun x vs H Q => ∃ l xs i k y, x = .ref l ∧ vs = [.int i] ∧ H l = some (.lst xs) ∧ -(2 ^ 63) ≤ i ∧ i < 2 ^ 63 ∧ seqIndex? i xs.length = some k ∧ xs[k]? = some y ∧ Q y (upd H l (.lst (xs.eraseIdx k)))
theorem mt_popAt : MtM X "list.pop" rPopAt := by
  intro pins s σ H x vs v us Q I rx rv h
  obtain ⟨l, xs, i, k, y, rfl, rfl, hH, h1, h2, hk, hy, q⟩ := h
  cases rx
  obtain ⟨u, rfl, ru⟩ := rv.one
  obtain ⟨t, rfl⟩ := ru
  obtain ⟨z, its, n, r, hl, e⟩ := I.lstM hH
  obtain ⟨w, hw, rw'⟩ := r.get hy
  refine call_meets F.slot_list_pop ⟨_, e, rfl⟩ F.entry_list_pop (F.args_list_pop_2 _ _)
    (MeetsSeq.list_pop_at l its.toArray n i t k w (fitsIndex_both h1 h2) (by rw [List.size_toArray, ← hl]; exact hk) (by rw [← Array.getElem?_toList]; exact hw) (by rw [List.size_toArray]; omega)) ⟨e, ?_⟩
  refine ⟨y, _, I.lset (its' := its.eraseIdx k) hH e ?_ (r.eraseIdx k) ?_, rw', q⟩
  · show its.toArray.eraseIdxIfInBounds k = (its.eraseIdx k).toArray
    rw [List.eraseIdxIfInBounds_toArray]
  · have := len_erase xs k
    omega

def rCat : R2 := fun x y H Q => ∃ l b xs zs, x = .ref l ∧ y = .ref b ∧ H l = some (.lst xs) ∧ H b = some (.lst zs) ∧ xs.length + zs.length ≤ sizeLine ∧ ∀ p, H p = none → Q (.ref p) (upd H p (.lst (xs ++ zs)))
theorem op_cat : OpR X (binaryOp .Add) rCat := by
  intro pins s σ H x y v u Q I rx ry h
  obtain ⟨l, b, xs, zs, rfl, rfl, hH, hB, hz, q⟩ := h
  cases rx
  cases ry
  obtain ⟨z, its, n, r, hl, e⟩ := I.lstM hH
  obtain ⟨z2, its2, n2, r2, hl2, e2⟩ := I.lstM hB
  refine PySem.P.add_list e e2 ?_ (by rw [List.size_toArray, List.size_toArray]; omega)
  have ea : its.toArray ++ its2.toArray = (its ++ its2).toArray := by simp
  rw [ea]
  exact ⟨.ref _, _, I.lnew (t' := s.toks) (r.append r2) (by rw [List.length_append]; omega), rfl, q _ I.fresh⟩
end

end L2

namespace Att
open PySem PySem.W PySem.Calls PyProof.Rows

theorem ints_of_wellAll {P : Params} {h : Heap} : ∀ (ns : List Int) (vs : List Value), WellAll P h vs (ns.map WData.int) → IntsAre vs ns := by
  intro ns
  induction ns with
  | nil =>
    intro vs w
    rw [List.map_nil] at w
    cases w
    exact .nil
  | cons n ns ih =>
    intro vs w
    rw [List.map_cons] at w
    cases w with
    | cons a b =>
      cases a
      exact .cons _ _ (ih _ b)

theorem script_of {l : OpenLaw} {n : Nat} (hn : l.most = some n) {P : Params} {h : Heap} {args : List WData} {vals : List Value}
    (hpre : l.row.toRowW.claim.pre args = true) (hwl : WellAll P h vals args) :
    ∃ a vs ns, vals = [Value.ref a] ∧ args = [WData.list (ns.map WData.int)] ∧ h.get? a = some { cls := .type "list", data := .seq vs.toArray } ∧ IntsAre vs ns ∧ ns.length ≤ n := by
  have hsh : WShape.hasAll [] args [.list .int] = true := (pre_splitW hpre).1
  have hc : l.pre.holds [] { args := args } = true := (pre_splitW hpre).2
  obtain ⟨d, r, rfl, h1, h2⟩ := hasAllW_cons hsh
  obtain rfl := hasAllW_nil h2
  obtain ⟨xs, rfl, h3⟩ := hasW_list h1
  obtain ⟨ns, rfl⟩ := items_int h3
  have hlen : ns.length ≤ n := by
    unfold OpenLaw.pre at hc
    have h4 : (WTm.not (.lt (.lit (.int (n : Int))) (.len (.arg 0)))).holds [] { args := [.list (ns.map .int)] } = true := by
      have h4 := (holds_andW hc).1
      rw [hn] at h4
      exact h4
    have h5 := condW_of h4 (w_not (w_lt w_lit (w_len_list (w_arg rfl))))
    rw [List.length_map] at h5
    refine Nat.le_of_not_lt fun q => ?_
    have q' : (n : Int) < ((ns.length : Nat) : Int) := by omega
    first
      | (rw [decide_eq_true q'] at h5; exact absurd h5 (by decide))
      | (simp at h5; omega)
  cases hwl with
  | cons w1 w2 =>
    cases w2
    cases w1 with
    | list ho hall => exact ⟨_, _, ns, rfl, rfl, ho, ints_of_wellAll ns _ hall, hlen⟩

theorem post_true (l : OpenLaw) (args : List WData) : l.row.toRowW.claim.post args (.bool true) args = true :=
  postW_of (r := l.row.toRowW) (X := (true == true))
    (show WShape.has [] (.bool true) .bool = true by first | rfl | decide | simp [WShape.has, WShape.arms, WShape.armsAll])
    (show (WTm.eq .res (.lit (.bool true))).value [] { args := args, res := some (.bool true), after := args } = some (.bool (true == true)) from w_eq_bool (w_res rfl) w_lit) rfl

theorem attach_call {l : OpenLaw} {n : Nat} {q : Program} {loose : List Str} {XP : (Str → Option Value) → Heap → Prop} {YP : World → Heap → Prop} {d : DefRec}
    (hn : l.most = some n) (hdf : d.params.defaults = [])
    (call : ∀ (w : World) (s₀ s₁ : Shared) (mg mb : Str → Option Value) (fa : Addr) (o : Obj) (pm cd doc : Value) (a : Addr) (vs : List Value) (ns : List Int),
      Ground q loose [] XP w s₀ mg mb s₁.heap → YP w s₁.heap →
      s₁.heap.get? fa = some o → o.data = .func (docDef d.name d.params d.body d.scope pm cd doc) → s₁.heap.CodeRec cd d.name → mg d.name = some (.ref fa) →
      s₁.heap.get? a = some { cls := .type "list", data := .seq vs.toArray } → IntsAre vs ns → ns.length ≤ n → s₁.gens = #[] →
      codeAny (model l.prog w) callerA (.call (.ref fa) ⟨[.ref a], []⟩) (fun r s' => r = .ok (.ret (.bool true)) ∧ OldK s₁.heap s'.heap ∧ s'.os = s₁.os ∧ AllBare s'.gens) s₁) :
    WalkO q loose XP YP l.row.toRowW d [] (fun f vs => PySem.call f vs) := by
  intro w s₀ s₁ mg mb G Y fa o pm cd doc dV kV ho hd hcd hD hmg hg args vals as hpre hlay hrd hwl hlo
  obtain rfl : dV = .none := Dflts.none hD hdf
  obtain rfl : kV = .none := Dflts.noKw hD
  obtain ⟨a, vs, ns, rfl, rfl, hobj, hints, hlen⟩ := script_of hn hpre hwl
  refine enter_call (codeAny_mono (call w s₀ s₁ mg mb fa o pm cd doc a vs ns G Y ho (fd_plain hd) hcd hmg hobj hints hlen hg) fun r s' hq => ?_)
  obtain ⟨rfl, h2, h3, h4⟩ := hq
  exact ⟨.inl ⟨.bool true, .bool true, [], rfl, fun _ => rfl, .bool true, post_true l _, fun _ => ⟨List.Pairwise.nil, fun _ hm => (nomatch hm)⟩⟩, h2, h3, h4⟩

end Att

namespace L2
open PySem PySem.Spec PyProof.Rows

theorem vals_ints : ∀ {vs : List Value} {ns : List Int}, IntsAre vs ns → Vals (ns.map V.int) vs
  | _, _, .nil => .nil
  | _, _, .cons n t h => .cons ⟨t, rfl⟩ (vals_ints h)

def Only (H : Hp) : Prop := ∀ b, H b = none ∨ ∃ o xs, H b = some (.frz o (.lst xs))

theorem law_call {P : Program} {w : World} {K : PySem.W.Frag} {mg mb : Str → Option Value} {CX : CXT} {k : Nat} {fa a : Addr} {fd : FuncData} {x : Str} {sp : Sp} {s₁ : Shared} {vs : List Value} {ns : List Int}
    (KX : K.In s₁.heap) (hns : s₁.heap.Ns mainGlobals mg) (hb : s₁.heap.Ns builtinsNs mb) (hbb : ∀ x : Str, x ≠ "__name__" → mb x = bootBuiltins x) (hlim : s₁.heap.NoLimit) (hg : s₁.gens = #[])
    (ha : s₁.heap.get? a = some { cls := .type "list", data := .seq vs.toArray }) (hi : IntsAre vs ns) (hl : ns.length ≤ sizeLine) (hr : Room k callerA)
    (F : ∀ base : Heap, K.In base → base.Ns mainGlobals mg → FnOk P w K mg base CX k fa fd [x] sp) (hbind : ∀ (s : Shared) (u : Value), BindsTo s fd ⟨[u], []⟩ [(x, u)])
    (hsp : ∀ H : Hp, Only H → SqL K H a (ns.map V.int) → sp [.ref a] H (fun v _ => v = .bl true) fun _ _ _ => False)
    (hCX : ∀ H e s', CX [] H s₁ (fun _ _ _ => False) e s' → False) :
    codeAny (model P w) callerA (.call (.ref fa) ⟨[.ref a], []⟩) (fun r s' => r = .ok (.ret (.bool true)) ∧ OldK s₁.heap s'.heap ∧ s'.os = s₁.os ∧ AllBare s'.gens) s₁ := by
  have rv := vals_ints hi
  have lenV := hi.length
  -- from an abstract heap in which nothing but the script may be tracked
  have core : ∀ H : Hp, Only H → SqL K H a (ns.map V.int) → HOk P w H s₁.heap → (∀ b, H b ≠ none → b = a) → (H a ≠ none → K.lookup a = none) →
      codeAny (model P w) callerA (.call (.ref fa) ⟨[.ref a], []⟩) (fun r s' => r = .ok (.ret (.bool true)) ∧ OldK s₁.heap s'.heap ∧ s'.os = s₁.os ∧ AllBare s'.gens) s₁ := by
    intro H hO hS hok hA hK
    have base_of : ∀ {b : Addr} {o : Obj}, s₁.heap.get? b = some o → H b = none → (hidT s₁.heap H).get? b = some o := fun e n => hidT_get e n
    have noA : ∀ {b : Addr} {o : Obj} {es : Array DictEntry} {ep : Nat}, s₁.heap.get? b = some o → o.data = .dict es ep → H b = none := fun {b o es ep} e d => by
      cases q : H b with
      | none => rfl
      | some u =>
        have e' : b = a := hA b (by rw [q]; simp)
        subst e'
        rw [ha] at e; cases e
        have d' : Data.seq vs.toArray _ = Data.dict es ep := d
        cases d'
    have nsK : ∀ {b : Addr} {m : Str → Option Value}, s₁.heap.Ns b m → (hidT s₁.heap H).Ns b m := fun {b m} ⟨o, es, ep, e, d, r⟩ => ⟨o, es, ep, base_of e (noA e d), d, r⟩
    have hKb : K.In (hidT s₁.heap H) := fun b o e => base_of (KX b o e) (by
      cases q : H b with
      | none => rfl
      | some u =>
        have e' : b = a := hA b (by rw [q]; simp)
        subst e'
        rw [hK (by rw [q]; simp)] at e; cases e)
    have hM : Mod K mg (hidT s₁.heap H) := ⟨hKb, nsK hns, ⟨mb, nsK hb, hbb⟩, let ⟨mc, h1, h2⟩ := hlim; ⟨mc, nsK h1, h2⟩⟩
    have e0 : Env0 P w K mg (hidT s₁.heap H) callerA [] s₁ H := ⟨rfl, hM, fun b o e => of_hidT e, Nat.le_of_eq (hidT_size _ _), trivial, fun b hb => absurd (show b ∈ ([] : List Addr) from hb) (by simp), hok, .of_eq hg⟩
    refine codeAny_mono ((F _ hKb (nsK hns)).run callerA [] s₁ H ⟨[.ref a], []⟩ [.ref a] [.ref a] _ _ hr e0 (hbind s₁ (.ref a)) (.cons rfl .nil) (hsp H hO hS)) fun r s' h => ?_
    cases r with
    | error e => exact (hCX H e s' h).elim
    | ok fl =>
      cases fl with
      | next => exact False.elim h
      | brk => exact False.elim h
      | cont => exact False.elim h
      | ret u =>
        obtain ⟨v, H', os, bare, un, hok', r', q⟩ := h
        have q' : v = .bl true := q
        subst q'
        obtain rfl : u = Value.bool true := r'
        refine ⟨rfl, OldK.of_keep fun b o e => ?_, os, bare⟩
        cases q : H b with
        | none => exact un.keep b o e q (by intro z; exact absurd (show b ∈ ([] : List Addr) from z) (by simp)) (by simp)
        | some u =>
          rcases hO b with z | ⟨ob, xs, z⟩
          · rw [q] at z; cases z
          · have z2 := un.frzs b ob _ z
            obtain ⟨e1, _⟩ := hok b _ z
            obtain ⟨e2, _⟩ := hok' b _ z2
            rw [e] at e1; cases e1
            exact e2
  cases hk : K.lookup a with
  | some o =>
    -- the script is one of the module's own objects
    have e := KX a o hk
    rw [ha] at e
    cases e
    refine core (fun _ => none) (fun _ => .inl rfl) (.inr ⟨_, vs.toArray, _, hk, rfl, rfl, rfl, by rw [List.size_toArray, lenV]; exact hl, by simpa using rv⟩) (fun b u z => by have z' : (none : Option HO) = some u := z; cases z') (fun b z => absurd rfl z) fun z => absurd rfl z
  | none =>
    refine core (fun b => if b = a then some (.frz { cls := .type "list", data := .seq vs.toArray } (.lst (ns.map V.int))) else none) (fun b => ?_) (.inl (.inr ⟨{ cls := .type "list", data := .seq vs.toArray }, if_pos rfl⟩)) (fun b u z => ?_) (fun b z => ?_) fun _ => hk
    · by_cases hb : b = a
      · exact .inr ⟨_, _, if_pos hb⟩
      · exact .inl (if_neg hb)
    · by_cases hb : b = a
      · have z' := (if_pos hb).symm.trans z
        cases z'
        subst hb
        exact ⟨ha, by rw [List.length_map]; exact hl, vs, _, rv, ha⟩
      · have z' := (if_neg hb).symm.trans z
        cases z'
    · by_cases hb : b = a
      · exact hb
      · exact absurd (if_neg hb) z
end L2

namespace L2
open PySem PySem.Spec PyProof.Rows

theorem walk_of {l : PySem.W.OpenLaw} {n k : Nat} {q : Program} {loose : List Str} {XP : (Str → Option Value) → Heap → Prop} {YP : World → Heap → Prop} {d : DefRec} {K : Params → PySem.W.Frag} {CX : World → CXT} {sp : World → Sp} {x : Str}
    (hn : l.most = some n) (hn2 : n ≤ sizeLine) (hdf : d.params.defaults = []) (hr : Room k callerA)
    (hY : ∀ (w : World) (h : Heap), YP w h → (K w.params).In h)
    (F : ∀ (w : World) (mg : Str → Option Value) (fa : Addr) (h : Heap), (K w.params).In h → h.Ns mainGlobals mg → mg d.name = some (.ref fa) →
      ∃ fd : FuncData, (∀ (s : Shared) (u : Value), BindsTo s fd ⟨[u], []⟩ [(x, u)]) ∧
        ∀ base : Heap, (K w.params).In base → base.Ns mainGlobals mg → FnOk l.prog w (K w.params) mg base (CX w) k fa fd [x] (sp w))
    (hsp : ∀ (w : World) (H : Hp) (a : Addr) (ns : List Int), ns.length ≤ n → Only H → SqL (K w.params) H a (ns.map V.int) → sp w [.ref a] H (fun v _ => v = .bl true) fun _ _ _ => False)
    (hCX : ∀ (w : World) (H : Hp) (s : Shared) (e : Value) (s' : Shared), CX w [] H s (fun _ _ _ => False) e s' → False) :
    PySem.W.WalkO q loose XP YP l.row.toRowW d [] (fun f vs => PySem.call f vs) := by
  refine Att.attach_call hn hdf fun w s₀ s₁ mg mb fa o pm cd doc a vs ns G Y ho hd hcd hmg hobj hints hlen hg => ?_
  have KX := hY w _ Y
  obtain ⟨fd, hb, hF⟩ := F w mg fa _ KX G.T.g hmg
  exact law_call KX G.T.g G.T.b G.T.builtins G.T.nolimit hg hobj hints (Nat.le_trans hlen hn2) hr hF hb (fun H hO hS => hsp w H a ns hlen hO hS) fun H e s' => hCX w H s₁ e s'
end L2

namespace L2
open PySem PySem.Spec PyProof.Rows

def inClass (s : Stmt) (j : Nat) : Stmt := match s with
  | .ClassDef _ _ _ body _ _ _ _ _ _ _ => body.getD j (.Pass ⟨0, 0, 0, 0⟩)
  | _ => .Pass ⟨0, 0, 0, 0⟩
def defArgs (s : Stmt) : Arguments := match s with
  | .FunctionDef _ a _ _ _ _ _ _ _ _ => a
  | _ => { posonlyargs := [], args := [], vararg := none, kwonlyargs := [], kw_defaults := [], kwarg := none, defaults := [] }
def defBody (s : Stmt) : List Stmt := match s with
  | .FunctionDef _ _ b _ _ _ _ _ _ _ => b
  | _ => []
def defScope (s : Stmt) : Scope := match s with
  | .FunctionDef _ _ _ _ _ _ sc _ _ _ => sc
  | _ => { kind := .function, names := [], isGenerator := false, isCoroutine := false }

abbrev CX0 : CXT := fun _ _ _ _ _ _ => False
abbrev E0 : XK := fun _ _ _ => False
theorem pass0 {X : Cx} : Passes CX0 X E0 := fun _ _ _ _ _ _ _ h => h.elim

structure Fun (K : PySem.W.Frag) (x qual : Str) (st : Stmt) (f : Addr) (fd : FuncData) : Prop where
  ex : ∃ (oc : Value) (od : Option Addr) (kV doc pm : Value) (an : Option Addr) (cdv ct : Value) (osl : Array (Option Value)),
    fd = PySem.W.fnOf x qual (defArgs st) (defBody st) (defScope st) .none kV doc pm an cdv ct ∧ K.lookup f = some ⟨oc, od, .func fd, osl⟩ ∧ PySem.W.codeIn K cdv qual = true
  kp : PySem.W.keepIn K (.ref f) = true
section
variable {P : Program} {w : World} {K : PySem.W.Frag} {mg : Str → Option Value} {base : Heap}
theorem Fun.ok {x qual : Str} {st : Stmt} {f : Addr} {fd : FuncData} {N ps : List Str} {k : Nat} {sp : Sp} (F : Fun K x qual st f fd) (S : FnScope N ps (defScope st)) (len : ∀ vs H Q E, sp vs H Q E → vs.length = ps.length)
    (hbody : ∀ (cdv : Value) (A : Around) (outer : List Env) (s : Shared) (H : Hp) (vs : List V) (Q : VK) (E : XK), Room k (A.deeper (envOfC qual (defScope st) s.heap.objs.size f cdv)) → sp vs H Q E →
      ∃ t, PSs (cxOf CX0 P w K mg base N qual (defScope st) f cdv A outer s H E).nox (defBody st) t ∧ t { nx := fun _ H' => Q .non H', rt := Q } (start N vs) H) : FnOk P w K mg base CX0 (k + 1) f fd ps sp := by
  obtain ⟨oc, od, kV, doc, pm, an, cdv, ct, osl, rfl, lk, hcd⟩ := F.ex
  refine fn_of lk hcd S len fun A outer s H vs Q E hr hsp => ?_
  obtain ⟨t, h, q⟩ := hbody cdv A outer s H vs Q E hr hsp
  exact ⟨t, h.nox, q⟩
theorem Fun.binds {x qual : Str} {st : Stmt} {f : Addr} {fd : FuncData} {ps : List Str} (F : Fun K x qual st f fd)
    (h : ∀ (kV doc pm : Value) (an : Option Addr) (cdv ct : Value) (us : List Value), us.length = ps.length → bindArgs (PySem.W.fnOf x qual (defArgs st) (defBody st) (defScope st) .none kV doc pm an cdv ct) ⟨us, []⟩ = pure (ps.zip us)) : Binds K fd ps [] := by
  obtain ⟨oc, od, kV, doc, pm, an, cdv, ct, osl, rfl, lk, hcd⟩ := F.ex
  exact .all (h kV doc pm an cdv ct)
theorem fun_mk {x qual : Str} {st : Stmt} {f : Addr} {oc : Value} {od an : Option Addr} {osl : Array (Option Value)} {kV doc pm cdv ct : Value} (l : K.lookup f = some ⟨oc, od, .func (PySem.W.fnOf x qual (defArgs st) (defBody st) (defScope st) .none kV doc pm an cdv ct), osl⟩)
    (c : PySem.W.codeIn K cdv qual = true) (k : PySem.W.keepIn K (.ref f) = true) : Fun K x qual st f (PySem.W.fnOf x qual (defArgs st) (defBody st) (defScope st) .none kV doc pm an cdv ct) := ⟨⟨oc, od, kV, doc, pm, an, cdv, ct, osl, rfl, l, c⟩, k⟩
end
theorem small1000 {n : Nat} (h : n ≤ 1000) : n < sizeLine := Nat.lt_of_le_of_lt h (by decide)

section
variable {X : Cx}
theorem pv (i : Nat) {x : Str} {pos : Pos} (hN : X.N[i]? = some x := by rfl) (hv : Vis X.env.scope x := by first | exact Or.inl rfl | exact Or.inr (Or.inl rfl) | exact Or.inr (Or.inr rfl)) (hd : (x == ("__debug__" : Str)) = false := by decide)
    (hcd : (x == ("__classdict__" : Str)) = false := by decide) : PE X (.Name x pos) (tVar i) := pe_var hN hv hd hcd
end

def Same (H H' : Hp) : Prop := ∀ b o, H b = some o → H' b = some o
theorem Same.refl (H : Hp) : Same H H := fun _ _ h => h
theorem Same.trans {H H1 H2 : Hp} (a : Same H H1) (b : Same H1 H2) : Same H H2 := fun c o h => b c o (a c o h)
theorem Same.free {H H' : Hp} (e : Same H H') {l : Addr} (h : H' l = Option.none) : H l = Option.none := by
  cases q : H l with
  | none => rfl
  | some o =>
    rw [e l o q] at h
    cases h
theorem Same.seq {K : PySem.W.Frag} {H H' : Hp} {a : Addr} {xs : List V} (e : Same H H') (h : SqL K H a xs) : SqL K H' a xs := by
  rcases h with (h | ⟨o, h⟩) | h
  · exact .inl (.inl (e _ _ h))
  · exact .inl (.inr ⟨o, e _ _ h⟩)
  · exact .inr h

end L2
namespace L2
open PySem PySem.Spec PyProof.Rows

def Has (P : Program) (w : World) (K : PySem.W.Frag) (mg : Str → Option Value) (base : Heap) (k : Nat) (x : Str) (ps : List Str) (sp : Sp) : Prop :=
  ∃ (f : Addr) (fd : FuncData), FnOk P w K mg base CX0 k f fd ps sp ∧ mg x = some (.ref f) ∧ PySem.W.keepIn K (.ref f) = true ∧ Binds K fd ps []
def tCallH (sp : Sp) (t : TA) : TE := fun σ H Q => t σ H fun vs H1 => sp vs H1 Q E0
section
variable {X : Cx} {k : Nat} {ps : List Str} {sp : Sp} {x : Str} {p pos : Pos} {e a c : Expr} {es : List Expr} {t : TA}
theorem pe_callH (C : Has X.prog X.w X.K X.mg X.base k x ps sp) (hr : Room k X.A) (hg : Gl X x) (ha : PA X (e :: es) t) (hdb : (x == ("__debug__" : Str)) = false := by decide) (he : starEach (e :: es) X.env = (false, eval e X.env) :: starEach es X.env := by rfl)
    (hpl : (backTo pos (starEach es X.env)).any (·.1) = false := by rfl) : PE X (.Call (.Name x p) (e :: es) [] pos) (tCallH sp t) := by
  obtain ⟨f, fd, F, hm, hk, hb⟩ := C
  intro pins s σ H Q I h
  refine wpAny_Call_Name_kw (ld_glob I hg hm ?_ hdb)
  refine PySem.W.callWith_K (h₀ := X.base) I.ok.mod.kin hk (thn (ha pos pins s σ H _ I h) fun us s1 ⟨vs, H1, I1, r, q⟩ => ⟨I1.kIn, ?_⟩) he hpl
  exact run_fn (dvs := []) F hr hb .nil pass0 I1 r (by rw [List.append_nil]; exact q)

theorem call_isinst : CallR X (.builtin "isinstance") (fun xs H Q => ∃ x n ty b, xs = [x, .ty n] ∧ TyOf X.K H x ty ∧ PySem.W.kitOne X.K ty (.type n) = some b ∧ Q (.bl b) H) := by
  intro pins s σ H xs us Q I r h
  obtain ⟨x, n, ty, b, rfl, hT, hk, q⟩ := h
  obtain ⟨u, w', rfl, r1, r2⟩ := vals2 r
  cases (show w' = Value.type n from r2)
  exact isinst_ok I r1 hT hk fun tk => ⟨.bl b, H, I.tok _, rfl, q⟩
end
theorem kit_same (K : PySem.W.Frag) (n : String) : PySem.W.kitOne K (.type n) (.type n) = some true := by
  unfold PySem.W.kitOne
  rw [if_pos (beq_self_eq_true _)]
theorem ifp {b : Bool} {A B : Prop} (h : b = true) (k : A) : if b = true then A else B := by rw [if_pos h]; exact k
theorem ifn {b : Bool} {A B : Prop} (h : b = false) (k : B) : if b = true then A else B := by rw [if_neg (by rw [h]; exact Bool.false_ne_true)]; exact k
theorem if2 {b : Bool} {A B : Prop} (h1 : b = true → A) (h2 : b = false → B) : if b = true then A else B := by
  cases b with
  | true => exact ifp rfl (h1 rfl)
  | false => exact ifn rfl (h2 rfl)
theorem eqT {x y : Int} (h : x = y) : decide (V.int x = V.int y) = true := by rw [h]; exact decide_eq_true rfl
theorem of_eqF {x y : Int} (h : decide (V.int x = V.int y) = false) : x ≠ y := fun z => of_decide_eq_false h (by rw [z])
theorem neF {x y : Int} (h : x = y) : (!decide (V.int x = V.int y)) = false := by rw [eqT h]; rfl
theorem notF {b : Bool} (h : b = true) : (!b) = false := by rw [h]; rfl
theorem atI_int {ns : List Int} {i : Int} (h0 : 0 ≤ i) (h1 : i < ns.length) : ∃ c, ns[i.toNat]? = some c ∧ atI (ns.map V.int) i = some (.int c) := by
  have hl : i.toNat < ns.length := by omega
  refine ⟨ns[i.toNat], List.getElem?_eq_getElem hl, ?_⟩
  have q : atI (ns.map V.int) ((i.toNat : Nat) : Int) = some (.int ns[i.toNat]) := atI_nat (by rw [List.getElem?_map, List.getElem?_eq_getElem hl]; rfl)
  rw [Int.toNat_of_nonneg h0] at q
  exact q
theorem mask31 (x : Int) : Builtin.bitAnd x 2147483647 = x % 2147483648 := PySem.W.kbt_mask x 31
end L2
namespace L2
open PySem PySem.Spec PyProof.Rows

def plainV : V → Bool
  | .int _ => true
  | .str _ => true
  | _ => false
theorem plain_flat {x : V} (h : plainV x = true) : flatV x = true := by
  cases x <;> (try (exact Bool.noConfusion (show false = true from h))) <;> rfl
theorem eqV_plain {x y : V} (hx : plainV x = true) (hy : plainV y = true) : eqV x y = decide (x = y) := by
  cases x <;> (try (exact Bool.noConfusion (show false = true from hx))) <;> cases y <;> (try (exact Bool.noConfusion (show false = true from hy))) <;> (rw [Bool.eq_iff_iff]; simp [eqV])
def eqE (xs ys : List V) (j : Nat) : Bool := eqV (xs.getD j .non) (ys.getD j .non)
theorem eq_all : ∀ {xs ys : List V}, xs.all plainV = true → ys.all plainV = true → ((List.range (min xs.length ys.length)).all (eqE xs ys) && xs.length == ys.length) = decide (xs = ys)
  | [], [], _, _ => by simp
  | [], y :: ys, _, _ => by simp
  | x :: xs, [], _, _ => by simp
  | x :: xs, y :: ys, hx, hy => by
    rw [List.all_cons, Bool.and_eq_true] at hx hy
    have ih := eq_all hx.2 hy.2
    have e : min (x :: xs).length (y :: ys).length = min xs.length ys.length + 1 := by simp only [List.length_cons]; omega
    rw [e, List.range_succ_eq_map, List.all_cons, List.all_map]
    have e2 : (List.range (min xs.length ys.length)).all (eqE (x :: xs) (y :: ys) ∘ Nat.succ) = (List.range (min xs.length ys.length)).all (eqE xs ys) := by
      congr 1
    have e3 : eqE (x :: xs) (y :: ys) 0 = decide (x = y) := eqV_plain hx.1 hy.1
    have e4 : ((x :: xs).length == (y :: ys).length) = (xs.length == ys.length) := by
      rw [Bool.eq_iff_iff]; simp
    rw [e2, e3, e4, Bool.and_assoc, ih, Bool.eq_iff_iff]
    simp
theorem eq_at {A : Around} {s : Shared} {xs ys : List V} {its its2 : List Value} (hx : xs.all plainV = true) (hy : ys.all plainV = true) (r : Vals xs its) (r2 : Vals ys its2) :
    ∀ j (h1 : j < its.toArray.size) (h2 : j < its2.toArray.size), SeqAt.EqAt A s its.toArray[j] its2.toArray[j] (eqE xs ys j) := by
  intro j h1 h2
  have e1 := r.length
  have e2 := r2.length
  rw [List.size_toArray] at h1 h2
  have g1 : xs[j]? = some xs[j] := by simp
  have g2 : ys[j]? = some ys[j] := by simp
  obtain ⟨u, hu, ru⟩ := r.get g1
  obtain ⟨v, hv, rv⟩ := r2.get g2
  have z1 : its.toArray[j]'(by rw [List.size_toArray]; exact h1) = u := by
    have := List.getElem?_eq_some_iff.mp hu
    obtain ⟨_, q⟩ := this
    simpa using q
  have z2 : its2.toArray[j]'(by rw [List.size_toArray]; exact h2) = v := by
    have := List.getElem?_eq_some_iff.mp hv
    obtain ⟨_, q⟩ := this
    simpa using q
  rw [z1, z2]
  have q1 : eqE xs ys j = eqV xs[j] ys[j] := by
    unfold eqE
    rw [List.getD_eq_getElem?_getD, List.getD_eq_getElem?_getD, g1, g2]
    rfl
  rw [q1]
  exact eqAt_V ru rv (plain_flat ((List.all_eq_true.mp hx) _ (List.getElem_mem _))) (plain_flat ((List.all_eq_true.mp hy) _ (List.getElem_mem _)))
section
variable {X : Cx}
def rEqT (K : PySem.W.Frag) (g : Bool → Bool) : R2 := fun x y H Q => ∃ a b xs ys, x = .ref a ∧ y = .ref b ∧ SqT K H a xs ∧ SqT K H b ys ∧ xs.all plainV = true ∧ ys.all plainV = true ∧ Q (.bl (g (decide (xs = ys)))) H
theorem size_eqs {xs ys : List V} {its its2 : List Value} (hx : xs.all plainV = true) (hy : ys.all plainV = true) (r : Vals xs its) (r2 : Vals ys its2) :
    ((List.range (min its.toArray.size its2.toArray.size)).all (eqE xs ys) && its.toArray.size == its2.toArray.size) = decide (xs = ys) := by
  rw [List.size_toArray, List.size_toArray, ← r.length, ← r2.length]
  exact eq_all hx hy
theorem op_eqT (hu : X.A.units < cLine) : OpR X (compareOp .Eq) (rEqT X.K fun b => b) := by
  intro pins s σ H x y v u Q I rx ry h
  obtain ⟨a, b, xs, ys, rfl, rfl, ha, hb, fx, fy, q⟩ := h
  cases rx; cases ry
  obtain ⟨its, r, p, hz⟩ := I.tuple ha
  obtain ⟨its2, r2, p2, hz2⟩ := I.tuple hb
  refine SeqAt.eq_tupleAt (e := eqE xs ys) p p2 hu (eq_at fx fy r r2) ⟨.bl _, H, I, rfl, ?_⟩
  rw [size_eqs fx fy r r2]
  exact q
theorem op_neT (hu : X.A.units < cLine) : OpR X (compareOp .NotEq) (rEqT X.K fun b => !b) := by
  intro pins s σ H x y v u Q I rx ry h
  obtain ⟨a, b, xs, ys, rfl, rfl, ha, hb, fx, fy, q⟩ := h
  cases rx; cases ry
  obtain ⟨its, r, p, hz⟩ := I.tuple ha
  obtain ⟨its2, r2, p2, hz2⟩ := I.tuple hb
  refine SeqAt.RcNeAt.tuples (e := eqE xs ys) p p2 hu (eq_at fx fy r r2) _ _ _ _ ⟨.bl _, H, I, rfl, ?_⟩
  rw [size_eqs fx fy r r2]
  exact q
end
end L2
namespace L2
open PySem PySem.Spec PyProof.Rows

def Cx.blk (X : Cx) (N : List Str) (sc : Scope) (cl : List (Str × Addr)) (C : Addr) (s : Shared) (H : Hp) (ex : List Addr) : Cx where
  prog := X.prog
  w := X.w
  K := X.K
  mg := X.mg
  base := X.base
  A := X.A
  N := N
  s₀ := s
  H₀ := H
  env := compEnvC sc cl C X.env
  outer := X.stack
  stack := X.stack
  ex := ex
  fn := fun _ => false
  calm := X.calm
  pn := []
  xe := fun _ _ => False

structure BlkScope (osc : Scope) (N : List Str) (x : Str) (ys : List Str) (js : List Nat) (sc : Scope) : Prop where
  kind : sc.kind = .function
  nocell : ∀ y ∈ sc.names, y.2 ≠ .cell
  loc : ∀ y ∈ sc.names, y.2 = .local → sc.names.lookup y.1 = some .local
  var : sc.names.lookup x = some .local
  out : ∀ y ∈ sc.names, y.2 = .free → osc.names.lookup y.1 = some .cell ∨ osc.names.lookup y.1 = some .free
  free : ∀ y ∈ ys, sc.names.lookup y = some .free
  places : js.map (fun j => N[j]?) = ys.map some
  nd : (x :: ys).Nodup

theorem relabel_free {env : Env} : ∀ {names : List (Str × NameKind)} {x : Str}, names.lookup x = some .free →
    (names.map fun (n, k) => if (k == NameKind.free && env.scope.kind == .function && env.kindOf n == some .cell) then (n, NameKind.cell) else (n, k)).lookup x = some .cell ∨
    (names.map fun (n, k) => if (k == NameKind.free && env.scope.kind == .function && env.kindOf n == some .cell) then (n, NameKind.cell) else (n, k)).lookup x = some .free
  | [], _, h => by simp at h
  | (n, k) :: r, x, h => by
    have ih := @relabel_free env r x
    rw [List.map_cons]
    show List.lookup x ((if (k == NameKind.free && env.scope.kind == .function && env.kindOf n == some .cell) = true then (n, NameKind.cell) else (n, k)) :: _) = _ ∨ List.lookup x ((if (k == NameKind.free && env.scope.kind == .function && env.kindOf n == some .cell) = true then (n, NameKind.cell) else (n, k)) :: _) = _
    cases hx : x == n with
    | true =>
      simp only [List.lookup_cons, hx] at h
      cases h
      by_cases hc : (NameKind.free == NameKind.free && env.scope.kind == .function && env.kindOf n == some .cell) = true
      · rw [if_pos hc]; exact .inl (by simp [List.lookup_cons, hx])
      · rw [if_neg hc]; exact .inr (by simp [List.lookup_cons, hx])
    | false =>
      simp only [List.lookup_cons, hx] at h
      by_cases hc : (k == NameKind.free && env.scope.kind == .function && env.kindOf n == some .cell) = true
      · rw [if_pos hc]; simp only [List.lookup_cons, hx]; exact ih h
      · rw [if_neg hc]; simp only [List.lookup_cons, hx]; exact ih h
theorem relabel_back {env : Env} : ∀ {names : List (Str × NameKind)} {x : Str}, (∀ y ∈ names, y.2 ≠ .cell) →
    ((names.map fun (n, k) => if (k == NameKind.free && env.scope.kind == .function && env.kindOf n == some .cell) then (n, NameKind.cell) else (n, k)).lookup x = some .cell ∨
    (names.map fun (n, k) => if (k == NameKind.free && env.scope.kind == .function && env.kindOf n == some .cell) then (n, NameKind.cell) else (n, k)).lookup x = some .free) → (x, NameKind.free) ∈ names
  | [], _, _, h => by simp at h
  | (n, k) :: r, x, hn, h => by
    have ih := @relabel_back env r x fun y hy => hn y (List.mem_cons_of_mem _ hy)
    rw [List.map_cons] at h
    have h' : List.lookup x ((if (k == NameKind.free && env.scope.kind == .function && env.kindOf n == some .cell) = true then (n, NameKind.cell) else (n, k)) :: (r.map fun (n, k) => if (k == NameKind.free && env.scope.kind == .function && env.kindOf n == some .cell) then (n, NameKind.cell) else (n, k))) = some .cell ∨ List.lookup x ((if (k == NameKind.free && env.scope.kind == .function && env.kindOf n == some .cell) = true then (n, NameKind.cell) else (n, k)) :: (r.map fun (n, k) => if (k == NameKind.free && env.scope.kind == .function && env.kindOf n == some .cell) then (n, NameKind.cell) else (n, k))) = some .free := h
    cases hx : x == n with
    | true =>
      have e : x = n := eq_of_beq hx
      by_cases hc : (k == NameKind.free && env.scope.kind == .function && env.kindOf n == some .cell) = true
      · have hk : k = .free := by
          cases k <;> first | rfl | (simp at hc)
        rw [e, hk]; exact List.mem_cons_self
      · rw [if_neg hc] at h'
        simp only [List.lookup_cons, hx] at h'
        rcases h' with h' | h'
        · have q : k = .cell := Option.some.inj h'
          exact absurd q (hn (n, k) List.mem_cons_self)
        · have q : k = .free := Option.some.inj h'
          rw [e, q]; exact List.mem_cons_self
    | false =>
      refine List.mem_cons_of_mem _ (ih ?_)
      by_cases hc : (k == NameKind.free && env.scope.kind == .function && env.kindOf n == some .cell) = true
      · rw [if_pos hc] at h'; simp only [List.lookup_cons, hx] at h'; exact h'
      · rw [if_neg hc] at h'; simp only [List.lookup_cons, hx] at h'; exact h'

theorem closure_ok {sc : Scope} {env : Env} (h : ∀ y ∈ sc.names, y.2 = .free → ∃ c, env.cells.lookup y.1 = some c) :
    ∃ cl, closureFor sc env = pure cl ∧ (∀ y c, cl.lookup y = some c → env.cells.lookup y = some c) ∧ ∀ y ∈ sc.names, y.2 = .free → ∃ c, cl.lookup y.1 = some c := by
  have go : ∀ (l : List (Str × NameKind)) (acc : List (Str × Addr)), (∀ y ∈ l, y.2 = .free → ∃ c, env.cells.lookup y.1 = some c) → (∀ y c, acc.lookup y = some c → env.cells.lookup y = some c) →
      ∃ cl, (forIn l acc fun (x : Str × NameKind) (r : List (Str × Addr)) => if x.2 == .free then (do let c ← cellOf env x.1; pure (ForInStep.yield ((x.1, c) :: r)) : Sem (ForInStep (List (Str × Addr)))) else pure (ForInStep.yield r)) = pure cl ∧
        (∀ y c, cl.lookup y = some c → env.cells.lookup y = some c) ∧ (∀ y ∈ l, y.2 = .free → ∃ c, cl.lookup y.1 = some c) ∧ ∀ y, (∃ c, acc.lookup y = some c) → ∃ c, cl.lookup y = some c := by
    intro l
    induction l with
    | nil => intro acc _ ha; exact ⟨acc, rfl, ha, (fun _ z => nomatch z), fun _ z => z⟩
    | cons p l ih =>
      intro acc hl ha
      obtain ⟨n, k⟩ := p
      by_cases hk : k = .free
      · subst hk
        obtain ⟨c, hc⟩ := hl (n, .free) List.mem_cons_self rfl
        have ha' : ∀ y d, List.lookup y ((n, c) :: acc) = some d → env.cells.lookup y = some d := fun y d e => by
          rw [List.lookup_cons] at e
          cases q : y == n with
          | true => rw [q] at e; cases e; rw [eq_of_beq q]; exact hc
          | false => rw [q] at e; exact ha y d e
        obtain ⟨cl, e, h1, h2, h3⟩ := ih ((n, c) :: acc) (fun y hy => hl y (List.mem_cons_of_mem _ hy)) ha'
        have hco : cellOf env n = pure c := by unfold cellOf; rw [hc]
        refine ⟨cl, ?_, h1, fun y hy hf => ?_, fun y hy => h3 y ?_⟩
        · rw [List.forIn_cons]
          simp only [beq_self_eq_true, if_true]
          rw [hco]
          exact e
        · rcases List.mem_cons.mp hy with rfl | hy
          · exact h3 n ⟨c, by simp [List.lookup_cons]⟩
          · exact h2 y hy hf
        · obtain ⟨d, hd⟩ := hy
          rw [List.lookup_cons]
          cases y == n with
          | true => exact ⟨c, rfl⟩
          | false => exact ⟨d, hd⟩
      · obtain ⟨cl, e, h1, h2, h3⟩ := ih acc (fun y hy => hl y (List.mem_cons_of_mem _ hy)) ha
        refine ⟨cl, ?_, h1, fun y hy hf => ?_, h3⟩
        · rw [List.forIn_cons]
          have hb : (k == NameKind.free) = false := by simpa using hk
          simp only [hb, Bool.false_eq_true, if_false]
          exact e
        · rcases List.mem_cons.mp hy with rfl | hy
          · exact absurd hf hk
          · exact h2 y hy hf
  obtain ⟨cl, e, h1, h2, _⟩ := go sc.names [] h fun _ _ z => by simp at z
  refine ⟨cl, ?_, h1, h2⟩
  unfold closureFor
  show (forIn sc.names [] _ >>= fun cs => pure cs) = pure cl
  exact (congrArg (· >>= fun cs => pure cs) e).trans rfl
end L2
namespace L2
open PySem PySem.Spec PyProof.Rows

section
variable {X : Cx} {pins : List (Addr × Obj)} {σ : St} {H : Hp} {s : Shared} {x : Str} {ys : List Str} {js : List Nat} {sc : Scope} {cl : List (Str × Addr)} {fp : List Addr}
def blkSt (js : List Nat) (σ : St) (v : Option V) : St := v :: js.map fun j => σ.getD j none

theorem blk_ok (I : Inv X pins σ H s) (S : BlkScope X.env.scope X.N x ys js sc) (h1 : ∀ y c, cl.lookup y = some c → X.env.cells.lookup y = some c) (h2 : ∀ y ∈ sc.names, y.2 = .free → ∃ c, cl.lookup y.1 = some c)
    (hf : ∀ b ∈ fp, FpOk X pins H b) (hl : ∀ b ∈ fp, b < s.heap.objs.size) : (X.blk (x :: ys) sc cl s.heap.objs.size s H fp).Ok where
  mod := I.ok.mod
  kind := S.kind
  glob := I.ok.glob
  blt := I.ok.blt
  above := Nat.le_refl _
  inj := fun y z c e1 e2 => I.ok.inj y z c (h1 y c e1) (h1 z c e2)
  has := fun y hy => h2 (y, .free) (relabel_back S.nocell hy) rfl
  cab := fun y c e => nomatch e
  hd := I.ok.hd
  frames := I.ok.frames
  stk := .inl rfl
  exf := fun b hb => ⟨Nat.ne_of_lt (hl b hb), fun y c e => (hf b hb).2.2.2.2.1 y c (h1 y c e)⟩
  bs := I.bs
  bsz := Nat.le_trans I.ok.bsz I.sz
  noex := fun b o e hb => by
    rcases (hf b hb).2.2.2.1 with z | z
    · exact I.ok.noex b o e z
    · exact absurd (Nat.lt_of_lt_of_le (Heap.lt_size e) (Nat.le_trans I.ok.bsz z)) (Nat.lt_irrefl _)
  exfs := fun b hb z => by
    rcases List.mem_cons.mp (I.stkSub b z) with q | q
    · exact (hf b hb).2.1 q
    · exact (hf b hb).2.2.1 q
  funs := I.stack
  frf := I.stkFree

theorem blk_start {h' : Heap} {t' : Nat} {m : Str → Option Value} (I : Inv X pins σ H s) (S : BlkScope X.env.scope X.N x ys js sc) (h1 : ∀ y c, cl.lookup y = some c → X.env.cells.lookup y = some c) (h2 : ∀ y ∈ sc.names, y.2 = .free → ∃ c, cl.lookup y.1 = some c)
    (hf : ∀ b ∈ fp, FpOk X pins H b) (hl : ∀ b ∈ fp, b < s.heap.objs.size) (hn : h'.Ns s.heap.objs.size m) (hk : ∀ b o, s.heap.get? b = some o → h'.get? b = some o) :
    Inv (X.blk (x :: ys) sc cl s.heap.objs.size s H fp) [] (blkSt js σ none) H { s with heap := h', toks := t' } where
  ok := blk_ok I S h1 h2 hf hl
  os := rfl
  bare := I.bare
  base := Un.kept hk
  loc := ⟨m, hn, fun i y v e1 e2 e3 => by
    cases i with
    | zero => cases (show some (none : Option V) = some (some v) from e2)
    | succ i =>
      have e1 : ys[i]? = some y := e1
      have e2 : (js.map fun j => σ.getD j none)[i]? = some (some v) := e2
      rw [List.getElem?_map] at e2
      cases ej : js[i]? with
      | none => rw [ej] at e2; cases e2
      | some j =>
        rw [ej] at e2
        have e2 : σ.getD j none = some v := Option.some.inj e2
        have e4 : σ[j]? = some (some v) := by
          cases q : σ[j]? with
          | none => rw [List.getD_eq_getElem?_getD, q] at e2; cases e2
          | some u => rw [List.getD_eq_getElem?_getD, q] at e2; rw [← e2]; rfl
        have e5 : X.N[j]? = some y := by
          have q := congrArg (fun l => l[i]?) S.places
          simp only [List.getElem?_map, ej, e1, Option.map_some] at q
          exact Option.some.inj q
        have e6 : (y, NameKind.free) ∈ sc.names := PySem.mem_of_lookup (S.free y (List.mem_of_getElem? e1))
        have e7 := S.out _ e6 rfl
        obtain ⟨m0, _, hl0⟩ := I.loc
        obtain ⟨u, r, lk⟩ := hl0 j y v e5 e4 (e7.elim (fun z => .inr (.inl z)) fun z => .inr (.inr z))
        refine ⟨u, r, .inr ⟨relabel_free (S.free y (List.mem_of_getElem? e1)), ?_⟩⟩
        rcases lk with ⟨k, _⟩ | ⟨_, c, ec, z⟩
        · have k : X.env.scope.names.lookup y = some .local := k
          rcases e7 with z | z <;> (rw [k] at z; cases z)
        · obtain ⟨c', ec'⟩ := h2 _ e6 rfl
          have q := h1 _ _ ec'
          have q : X.env.cells.lookup y = some c' := q
          rw [ec] at q; cases q
          obtain ⟨o, ho, hd⟩ := z
          exact ⟨c, ec', o, hk _ _ ho, hd⟩⟩
  cell := fun y c e => by
    obtain ⟨v, o, ho, hd⟩ := I.cell y c (h1 y c e)
    exact ⟨v, o, hk _ _ ho, hd⟩
  free := I.hok.fresh (Nat.le_refl _)
  freeC := fun y c e => I.freeC y c (h1 y c e)
  pin := fun p hp => absurd (show p ∈ ([] : List (Addr × Obj)) from hp) (by simp)
  hok := I.hok.kept hk
  len := by
    show (none :: js.map fun j => σ.getD j none).length = (x :: ys).length
    have q := congrArg List.length S.places
    simp only [List.length_map] at q
    simp [q]

theorem blk_end {H5 : Hp} {s5 : Shared} {σ5 : St} {pl : List (Addr × Obj)} (I : Inv X pins σ H s) (hf : ∀ b ∈ fp, FpOk X pins H b) (J : Inv (X.blk (x :: ys) sc cl s.heap.objs.size s H fp) pl σ5 H5 s5) :
    Inv X pins σ H5 s5 ∧ FpOk X pins H5 s.heap.objs.size ∧ ∃ oC m, s5.heap.get? s.heap.objs.size = some oC ∧ (∀ h : Heap, h.get? s.heap.objs.size = some oC → h.Ns s.heap.objs.size m) ∧ Inv X (pins ++ [(s.heap.objs.size, oC)]) σ H5 s5 := by
  have I5 : Inv X pins σ H5 s5 := I.call' (ch := fp) J.os J.base J.hok J.bare fun b hb => ⟨(hf b hb).2.2.2.1, (hf b hb).2.1, (hf b hb).2.2.2.2.1, (hf b hb).2.2.2.2.2⟩
  have F5 : FpOk X pins H5 s.heap.objs.size := I.fpOk (Nat.le_refl _) J.free
  obtain ⟨m, ⟨o, es, ep, ho, hd, r⟩, _⟩ := J.loc
  refine ⟨I5, F5, o, m, ho, fun h e => ⟨o, es, ep, e, hd, r⟩, I5.pins_of fun p hp => ?_⟩
  rcases List.mem_append.mp hp with z | z
  · exact I5.pin p (List.mem_append_right _ z)
  · have z : p = (s.heap.objs.size, o) := by simpa using z
    subst z
    exact ⟨ho, J.free, F5.2.1, F5.2.2.1, fun v q => by rw [hd] at q; cases q⟩
end

def PTs (X : Cx) (ifs : List Expr) (t : TT) : Prop :=
  ∀ (pins : List (Addr × Obj)) (s : Shared) (σ : St) (H : Hp) (Q : Bool → Hp → Prop), Inv X pins σ H s → t σ H Q →
    wpAny (model X.prog X.w) X.A (forIn ifs true fun c r => if r = true then do let ok ← isTrue c X.env (eval c X.env); pure (ForInStep.yield ok) else pure (ForInStep.yield r)) (TP X pins σ Q) X.xe s
def tAll : TT := fun _ H Q => Q true H
theorem pts_nil {X : Cx} : PTs X [] tAll := fun _ _ _ H _ I h => wpAny_tests_nil ⟨H, I, h⟩
theorem pts_one {X : Cx} {c : Expr} {t : TT} (h : PT X c t) : PTs X [c] t := fun pins s σ H Q I q => wpAny_tests_one (h pins s σ H Q I q)

def CompBy (js : List Nat) (tc : TT) (te : TE) (σ : St) (J : It) (H : Hp) (Fin : Addr → Hp → Prop) : Prop :=
  ∀ D, H D = none → ∃ W : Nat → Nat → List V → Hp → Prop, (∃ m, W 0 m [] (upd H D (.lst []))) ∧ ∀ i m ys H', W i m ys H' → H' D = some (.lst ys) ∧
    ((J.stop i H' ∧ Fin D H') ∨ (J.go i H' ∧ ∃ N : List V → Hp → Prop, (∀ zs H'', N zs H'' → ∃ m', m' < m ∧ W (i + 1) m' zs H'') ∧ ∀ v H2, J.yld i H' v H2 → tc (blkSt js σ (some v)) H2 fun b H3 =>
      if b = true then te (blkSt js σ (some v)) H3 fun y H4 => H4 D = some (.lst ys) ∧ ys.length < sizeLine ∧ N (ys ++ [y]) (upd H4 D (.lst (ys ++ [y]))) else N ys H3))

section
variable {X : Cx} {pins : List (Addr × Obj)} {σ : St} {H : Hp} {s : Shared} {x : Str} {ys : List Str} {js : List Nat} {sc : Scope} {cl : List (Str × Addr)} {fp : List Addr}
theorem comp_block {elt iter : Expr} {ifs : List Expr} {px pos : Pos} {tc : TT} {te : TE} {J : It} {it : Addr} {tn : Nat → Heap → Prop} {Fin : Addr → Hp → Prop} {E : Value → Shared → Prop} {RR : Value → Addr → Result → Shared → Prop}
    (hc : X.calm = true) (I : Inv X pins σ H s) (S : BlkScope X.env.scope X.N x ys js sc) (h1 : ∀ y c, cl.lookup y = some c → X.env.cells.lookup y = some c) (h2 : ∀ y ∈ sc.names, y.2 = .free → ∃ c, cl.lookup y.1 = some c)
    (T : Turn X.prog X.w X.K (.Name x px) J fp it tn) (st : tn 0 s.heap) (hf : ∀ b ∈ fp, FpOk X pins H b)
    (ht : ∀ cl C s H ex, PTs (X.blk (x :: ys) sc cl C s H ex) ifs tc) (he : ∀ cl C s H ex, PE (X.blk (x :: ys) sc cl C s H ex) elt te)
    (hw : CompBy js tc te σ J H Fin)
    (hRR : ∀ D C oC m s5 H5, Inv X pins σ H5 s5 → FpOk X pins H5 C → s5.heap.get? C = some oC → (∀ h : Heap, h.get? C = some oC → h.Ns C m) → Inv X (pins ++ [(C, oC)]) σ H5 s5 → Fin D H5 → RR (.ref D) C (.ok .next) s5) :
    wpAny (model X.prog X.w) X.A (newList []) (fun acc s₃ => wpAny (model X.prog X.w) X.A (newFunctionEnv sc X.env.globals cl [] X.env.qual none .none (some X.env)) (fun cenv s₄ =>
      codeAny (model X.prog X.w) X.A (.compStart (.ListComp elt [⟨.Name x px, iter, ifs, 0⟩] sc pos) 0 (.ref it) acc { cenv with scope := relabel sc X.env }) (RR acc cenv.locals) s₄) E s₃) E s := by
  refine wpAny_newObj_type (wpAny_newFunctionEnv S.nocell (by intro y hy; simp at hy) (fun h₁ hns₁ hsb₁ => ?_) S.kind)
  have hD : H s.heap.objs.size = none := I.hok.fresh (Nat.le_refl _)
  have I1 : Inv X pins σ (upd H s.heap.objs.size (.lst [])) { s with heap := s.heap.push { cls := .type "list", dict := none, data := .seq ([] : List Value).toArray }, toks := s.toks } :=
    I.laid (t' := s.toks) (fun b u e => Heap.get?_push_of_some _ e) (Nat.le_refl _) ⟨Nat.zero_le _, [], 0, .nil, Heap.get?_push_size _ rfl⟩
  have hfl : ∀ b ∈ fp, b < s.heap.objs.size := fun b hb => by
    obtain ⟨o, e, _⟩ := T.obj 0 _ st b hb
    exact Heap.lt_size e
  generalize hs1 : ({ s with heap := s.heap.push { cls := .type "list", dict := none, data := .seq ([] : List Value).toArray }, toks := s.toks } : Shared) = s1 at I1
  have sz1 : s1.heap.objs.size = s.heap.objs.size + 1 := by rw [← hs1]; exact Heap.size_push _ _
  have old : ∀ b o, s.heap.get? b = some o → s1.heap.get? b = some o := fun b o e => by rw [← hs1]; exact Heap.get?_push_of_some _ e
  rw [hs1] at hns₁ hsb₁
  try rw [hs1]
  have hf1 : ∀ b ∈ fp, FpOk X pins (upd H s.heap.objs.size (.lst [])) b := fun b hb => ⟨by rw [upd_ne (Nat.ne_of_lt (hfl b hb))]; exact (hf b hb).1, (hf b hb).2⟩
  have hfl1 : ∀ b ∈ fp, b < s1.heap.objs.size := fun b hb => by rw [sz1]; exact Nat.lt_succ_of_lt (hfl b hb)
  have old1 : ∀ b o, s1.heap.get? b = some o → h₁.get? b = some o := fun b o e => hsb₁.extBut b o (Nat.ne_of_lt (Heap.lt_size e)) (Heap.get?_push_of_some _ e)
  have I2 := blk_start (t' := s1.toks + ([] : List (Str × Value)).length) I1 S h1 h2 hf1 hfl1 hns₁ old1
  have st2 : tn 0 h₁ := T.keep 0 _ _ st fun b _ o e => old1 b o (old b o e)
  obtain ⟨W, ⟨m0, w0⟩, turn⟩ := hw s.heap.objs.size hD
  have fr0 : ∀ b ∈ fp, (upd H s.heap.objs.size (.lst [])) b = none := fun b hb => (hf1 b hb).1
  -- what stays true of the iterator's objects in the block
  have stat : ∀ {H' : Hp} {pl : List (Addr × Obj)}, (∀ b ∈ fp, H' b = none) → (∀ b ∈ fp, ∀ p ∈ pl, p.1 ≠ b) → ∀ b ∈ fp, FpOk (X.blk (x :: ys) sc cl s1.heap.objs.size s1 (upd H s.heap.objs.size (.lst [])) fp) pl H' b := fun hn hp b hb =>
    ⟨hn b hb, (I2.ok.exf b hb).1, I2.ok.exfs b hb, .inl hb, (I2.ok.exf b hb).2, fun p hpp => hp b hb p (by simpa [Cx.blk] using hpp)⟩
  have loop : codeAny (model X.prog X.w) X.A (.compLoop (.ListComp elt [⟨.Name x px, iter, ifs, 0⟩] sc pos) 0 (.ref it) (.ref s.heap.objs.size) (compEnvC sc cl s1.heap.objs.size X.env)) (RR (.ref s.heap.objs.size) s1.heap.objs.size)
      { s1 with heap := h₁, toks := s1.toks + ([] : List (Str × Value)).length } := by
    refine codeAny_compLoop_tests (fun n s' => ∃ i zs H', Inv (X.blk (x :: ys) sc cl s1.heap.objs.size s1 (upd H s.heap.objs.size (.lst [])) fp) [] (blkSt js σ none) H' s' ∧ tn i s'.heap ∧ (∀ b ∈ fp, H' b = none) ∧ W i n zs H') ?_ m0 ⟨0, [], _, I2, st2, fr0, w0⟩
    rintro n s3 ⟨i, zs, H3, I3, st3, fr3, w3⟩
    obtain ⟨hD3, tr⟩ := turn i n zs H3 w3
    rcases tr with ⟨stop, fin⟩ | ⟨go, N, hN, step⟩
    · refine thn (T.done (X.blk (x :: ys) sc cl s1.heap.objs.size s1 (upd H s.heap.objs.size (.lst [])) fp) rfl rfl rfl hc i [] s3 _ H3 _ I3 (stat fr3 (fun _ _ _ z => nomatch z)) st3 stop) fun r s4 ⟨hr, I4⟩ => ?_
      subst hr
      obtain ⟨I5, F5, oC, m, ho, hns, I6⟩ := blk_end I1 hf1 I4
      exact hRR _ _ oC m _ _ I5 F5 ho hns I6 fin
    · refine thn (T.item (X.blk (x :: ys) sc cl s1.heap.objs.size s1 (upd H s.heap.objs.size (.lst [])) fp) rfl rfl rfl hc i [] s3 _ H3 _ I3 (stat fr3 (fun _ _ _ z => nomatch z)) st3 go) fun r s4 ⟨u, hr, h4⟩ => ?_
      subst hr
      show wpAny _ _ (letOwnedTupleGo (.Name x px) (.ref it) u >>= fun _ => assign (.Name x px) (compEnvC sc cl s1.heap.objs.size X.env) u) _ _ s4
      refine wpAny_bind (thn h4 fun _ s5 ⟨v, H5, I5, r5, y5, st5, fr5⟩ => ?_)
      have I5' := I5.pinned (stat fr5 (fun _ _ _ z => nomatch z)) (T.obj _ _ st5)
      refine wpAny_mono (pg_name (X := X.blk (x :: ys) sc cl s1.heap.objs.size s1 (upd H s.heap.objs.size (.lst [])) fp) (i := 0) (pos := px) S.nd rfl (.inl (lookup_relabel_local S.var)) (.inr (lookup_relabel_local S.var)) _ s5 _ H5 v u (fun σ' H' => σ' = blkSt js σ (some v) ∧ H' = H5) I5' r5 ⟨rfl, rfl⟩)
        (fun _ s6 ⟨σ6, H6, I6, e6, e7⟩ => ?_) (fun _ _ z => nomatch z)
      subst e6; subst e7
      refine wpAny_mono (ht _ _ _ _ _ _ s6 _ _ _ I6 (step v H6 y5)) (fun b s7 ⟨H7, I7, q7⟩ => ?_) (fun _ _ z => nomatch z)
      -- the turn's end
      have again : ∀ {σ8 : St} {H8 : Hp} {s8 : Shared} {zs' : List V}, Inv (X.blk (x :: ys) sc cl s1.heap.objs.size s1 (upd H s.heap.objs.size (.lst [])) fp) ([] ++ pinsAt fp s5.heap) (blkSt js σ (some v)) H8 s8 → N zs' H8 →
          ∃ m, m < n ∧ ∃ i zs H', Inv (X.blk (x :: ys) sc cl s1.heap.objs.size s1 (upd H s.heap.objs.size (.lst [])) fp) [] (blkSt js σ none) H' s8 ∧ tn i s8.heap ∧ (∀ b ∈ fp, H' b = none) ∧ W i m zs H' := by
        intro σ8 H8 s8 zs' I8 n8
        obtain ⟨m', hm, w8⟩ := hN _ _ n8
        refine ⟨m', hm, i + 1, zs', H8, (Inv.unpinned I8).weak rfl (fun k w e => ?_), T.keep _ _ _ st5 fun b hb o e => (I8.pin (b, o) (List.mem_append_right _ (List.mem_append_right _ (mem_pinsAt hb e)))).1, fun b hb => ?_, w8⟩
        · cases k with
          | zero => cases (show some (none : Option V) = some (some w) from e)
          | succ k => exact e
        · obtain ⟨o, e, d⟩ := T.obj _ _ st5 b hb
          exact (I8.pin (b, o) (List.mem_append_right _ (List.mem_append_right _ (mem_pinsAt hb e)))).2.1
      cases b with
      | false =>
        rw [if_neg Bool.false_ne_true] at q7
        rw [if_neg Bool.false_ne_true]
        exact again (σ8 := []) I7 q7
      | true =>
        rw [if_pos rfl] at q7
        rw [if_pos rfl]
        refine wpAny_mono (he _ _ _ _ _ _ s7 _ _ _ I7 q7) (fun u8 s8 ⟨y8, H8, I8, r8, hD8, hz8, q8⟩ => ?_) (fun _ _ z => nomatch z)
        refine wpAny_mono (mt_append (X := X.blk (x :: ys) sc cl s1.heap.objs.size s1 (upd H s.heap.objs.size (.lst [])) fp) _ s8 _ H8 (.ref s.heap.objs.size) [y8] (.ref s.heap.objs.size) [u8] (fun _ H9 => H9 = upd H8 s.heap.objs.size (.lst (zs ++ [y8]))) I8 rfl (.cons r8 .nil)
          ⟨_, zs, y8, rfl, rfl, hD8, hz8, rfl⟩) (fun _ s9 ⟨_, H9, I9, _, e9⟩ => ?_) (fun _ _ z => nomatch z)
        subst e9
        exact again (σ8 := []) I9 q8
  exact codeAny_compStart_list loop (T.self X.A 0 _ _ _ st2 loop)
end

def tComp (wi : TI) (js : List Nat) (tc : TT) (te : TE) : TE := fun σ H Q => wi σ H fun J H1 => CompBy js tc te σ J H1 fun D H2 => Q (.ref D) H2
def tSetC (i : Nat) (wi : TI) (js : List Nat) (tc : TT) (te : TE) : TS := fun D σ H => wi σ H fun J H1 => CompBy js tc te σ J H1 fun a H2 => D.nx (σ.set i (some (.ref a))) H2
section
variable {X : Cx} {elt iter : Expr} {x : Str} {ys : List Str} {js : List Nat} {sc : Scope} {ifs : List Expr} {px pos : Pos} {wi : TI} {tc : TT} {te : TE}
theorem blk_cells {pins : List (Addr × Obj)} {σ : St} {H : Hp} {s : Shared} (I : Inv X pins σ H s) (S : BlkScope X.env.scope X.N x ys js sc) : ∀ y ∈ sc.names, y.2 = .free → ∃ c, X.env.cells.lookup y.1 = some c := fun y hy hf => I.ok.has y.1 (S.out y hy hf)
theorem pe_comp (S : BlkScope X.env.scope X.N x ys js sc) (hc : X.calm = true) (hi : PI X (.Name x px) iter wi) (ht : ∀ cl C s H ex, PTs (X.blk (x :: ys) sc cl C s H ex) ifs tc) (he : ∀ cl C s H ex, PE (X.blk (x :: ys) sc cl C s H ex) elt te)
    (hs : ∀ v, foldedSetIterable iter X.env v = pure v := by intro _; rfl) : PE X (.ListComp elt [⟨.Name x px, iter, ifs, 0⟩] sc pos) (tComp wi js tc te) := by
  intro pins s σ H Q I h
  obtain ⟨cl, ecl, h1, h2⟩ := closure_ok (blk_cells I S)
  rw [eval_ListComp]
  refine wpAny_comprehension_free (use := none) rfl hs ecl S.kind S.loc (thn (hi pins s σ H _ I h) fun v s1 hv => thn hv fun itv s2 h2' => ?_)
  obtain ⟨it, fp, tn, J, H2, e, I2, T, st2, f2, q2⟩ := h2'
  subst e
  refine comp_block (RR := fun acc C => compPost (model X.prog X.w) X.A X.xe none (EP X pins σ Q) acc C) hc I2 S h1 h2 T st2 f2 ht he q2 ?_
  intro D C oC m s5 H5 I5 F5 ho hns I6 fin
  refine ⟨m, hns _ ho, fun h' hs' => ⟨.ref D, H5, ?_, rfl, fin⟩⟩
  exact I5.turned (t' := s5.toks) (fun b o hb e => hs'.extBut b o hb e) F5.1 F5.2.1 F5.2.2.2.1 F5.2.2.2.2.1 F5.2.2.2.2.2
theorem ps_setC {i : Nat} {y : Str} {py spos : Pos} (hN : X.N.Nodup) (hiN : X.N[i]? = some y) (hy : X.env.scope.names.lookup y = some .local) (S : BlkScope X.env.scope X.N x ys js sc) (hc : X.calm = true) (hi : PI X (.Name x px) iter wi)
    (ht : ∀ cl C s H ex, PTs (X.blk (x :: ys) sc cl C s H ex) ifs tc) (he : ∀ cl C s H ex, PE (X.blk (x :: ys) sc cl C s H ex) elt te)
    (hsw : swapsWith (.ListComp elt [⟨.Name x px, iter, ifs, 0⟩] sc pos) (some (.Name y py)) spos.line X.env = pure true := by rfl)
    (hs : ∀ v, foldedSetIterable iter X.env v = pure v := by intro _; rfl) : PS X (.Assign [.Name y py] (.ListComp elt [⟨.Name x px, iter, ifs, 0⟩] sc pos) spos) (tSetC i wi js tc te) := by
  intro pins s σ H D I h
  obtain ⟨cl, ecl, h1, h2⟩ := closure_ok (blk_cells I S)
  rw [exec_Assign_Name_used _ _ _ _ hsw]
  refine wpAny_bind (wpAny_standAt (wpAny_bind ?_))
  show wpAny _ X.A (do let _ ← comprehension (.ListComp elt [⟨.Name x px, iter, ifs, 0⟩] sc pos) sc X.env _ (newList []) false (eval iter X.env) (some (assign (.Name y py) X.env))) _ _ s
  refine wpAny_bind (wpAny_mono (wpAny_comprehension_free (use := some (assign (.Name y py) X.env)) (Q := fun _ s' => SP X pins D .next s') rfl hs ecl S.kind S.loc (thn (hi pins s σ H _ I h) fun v s1 hv => thn hv fun itv s2 h2' => ?_))
    (fun _ s' hq => wpAny_pure (wpAny_pure hq)) fun _ _ e => e)
  obtain ⟨it, fp, tn, J, H2, e, I2, T, st2, f2, q2⟩ := h2'
  subst e
  refine comp_block (RR := fun acc C => compPost (model X.prog X.w) X.A X.xe (some (assign (.Name y py) X.env)) (fun _ s' => SP X pins D .next s') acc C) hc I2 S h1 h2 T st2 f2 ht he q2 ?_
  intro a C oC m s5 H5 I5 F5 ho hns I6 fin
  show wpAny _ X.A (assign (.Name y py) X.env (.ref a)) _ _ s5
  refine wpAny_mono (pg_name (X := X) (i := i) (pos := py) hN hiN (.inl hy) (.inr hy) _ s5 σ H5 (.ref a) (.ref a) (fun σ' H' => σ' = σ.set i (some (.ref a)) ∧ H' = H5) I6 rfl ⟨rfl, rfl⟩) (fun _ s6 ⟨σ6, H6, I7, e6, e7⟩ => ?_) fun _ _ e => e
  subst e6; subst e7
  have hC6 : s6.heap.get? C = some oC := (I7.pin (C, oC) (List.mem_append_right _ (List.mem_append_right _ (by simp)))).1
  refine ⟨m, hns _ hC6, fun h' hs' => ⟨_, H6, ?_, fin⟩⟩
  exact (Inv.unpinned I7).turned (t' := s6.toks) (fun b o hb e => hs'.extBut b o hb e) F5.1 F5.2.1 F5.2.2.2.1 F5.2.2.2.2.1 F5.2.2.2.2.2
end

end L2
namespace L2
open PySem PySem.Spec PyProof.Rows

def TupKeep (H H' : Hp) : Prop := ∀ b xs, H b = some (.tup xs) → H' b = some (.tup xs)
theorem Same.tk {H H' : Hp} (s : Same H H') : TupKeep H H' := fun b xs e => s b _ e
theorem TupKeep.trans {H H1 H2 : Hp} (a : TupKeep H H1) (b : TupKeep H1 H2) : TupKeep H H2 := fun c xs e => b c xs (a c xs e)
theorem TupKeep.upd {H : Hp} {D : Addr} {o : HO} (h : ∀ xs, H D ≠ some (.tup xs)) : TupKeep H (upd H D o) := fun b xs e => by
  rw [upd_ne (by rintro rfl; exact h xs e)]; exact e
theorem Same.upd {H H' : Hp} {D : Addr} {o : HO} (s : Same H H') (h : H D = none) : Same H (upd H' D o) := fun b u e => by
  rw [upd_ne (by rintro rfl; rw [h] at e; cases e)]; exact s b u e
theorem Same.new {H : Hp} {D : Addr} {o : HO} (h : H D = none) : Same H (L2.upd H D o) := Same.upd (Same.refl H) h
theorem Same.seqT {K : PySem.W.Frag} {H H' : Hp} {a : Addr} {xs : List V} (e : Same H H') (h : SqT K H a xs) : SqT K H' a xs := by
  rcases h with (h | ⟨o, h⟩) | h
  · exact .inl (.inl (e _ _ h))
  · exact .inl (.inr ⟨o, e _ _ h⟩)
  · exact .inr h

theorem prd_append {α β : Type} {R : α → β → Prop} : ∀ {a a' : List α} {b b' : List β}, Paired R a b → Paired R a' b' → Paired R (a ++ a') (b ++ b')
  | _, _, _, _, .nil, q => q
  | _, _, _, _, .cons r t, q => .cons r (prd_append t q)
theorem prd_len {α β : Type} {R : α → β → Prop} : ∀ {a : List α} {b : List β}, Paired R a b → a.length = b.length
  | _, _, .nil => rfl
  | _, _, .cons _ t => congrArg (· + 1) (prd_len t)
theorem prd_get {α β : Type} {R : α → β → Prop} : ∀ {a : List α} {b : List β} {i : Nat} {y : β}, Paired R a b → b[i]? = some y → ∃ x, a[i]? = some x ∧ R x y
  | _, _, _, _, .nil, e => by simp at e
  | _, _, 0, _, .cons r _, e => by simp at e; subst e; exact ⟨_, rfl, r⟩
  | _, _, i + 1, y, .cons _ t, e => by
    obtain ⟨x, h1, h2⟩ := prd_get (i := i) (y := y) t (by simpa using e)
    exact ⟨x, by simpa using h1, h2⟩
theorem prd_imp {α β : Type} {R S : α → β → Prop} (f : ∀ x y, R x y → S x y) : ∀ {a : List α} {b : List β}, Paired R a b → Paired S a b
  | _, _, .nil => .nil
  | _, _, .cons r t => .cons (f _ _ r) (prd_imp f t)
theorem prd_map {α β : Type} {g : β → α} : ∀ {a : List α} {b : List β}, Paired (fun x y => x = g y) a b → a = b.map g
  | _, _, .nil => rfl
  | _, _, .cons r t => by rw [r, prd_map t]; rfl
theorem comp_grow {α β : Type} {js : List Nat} {tc : TT} {te : TE} {σ : St} {H : Hp} {Fin : Addr → Hp → Prop} {J : It} (bs : List β) (val : β → V) (p : β → Bool) (f : β → α) (R : Hp → V → α → Prop)
    (mono : ∀ H1 H2 v c, TupKeep H1 H2 → R H1 v c → R H2 v c)
    (hJ : ∀ H', Same H H' → (∀ i b, bs[i]? = some b → J.go i H' ∧ ∀ v H2, J.yld i H' v H2 → v = val b ∧ H2 = H') ∧ J.stop bs.length H')
    (ht : ∀ b H', b ∈ bs → Same H H' → ∀ Q2 : Bool → Hp → Prop, (∀ H3, Same H' H3 → Q2 (p b) H3) → tc (blkSt js σ (some (val b))) H' Q2)
    (he : ∀ b H', b ∈ bs → p b = true → Same H H' → ∀ Q2 : VK, (∀ y H4, Same H' H4 → R H4 y (f b) → Q2 y H4) → te (blkSt js σ (some (val b))) H' Q2)
    (hn : bs.length ≤ sizeLine)
    (hd : ∀ D ws H', H D = none → Same H H' → H' D = some (.lst ws) → Paired (R H') ws ((bs.filter p).map f) → Fin D H') : CompBy js tc te σ J H Fin := by
  intro D hD
  have tkeep : ∀ {H4 : Hp} {ys zs : List V}, H4 D = some (.lst ys) → TupKeep H4 (upd H4 D (.lst zs)) := fun e => TupKeep.upd fun xs z => by rw [e] at z; cases z
  let Pv : Nat → List V → Hp → Prop := fun i ys H' => Same H H' ∧ H' D = some (.lst ys) ∧ Paired (R H') ys (((bs.take i).filter p).map f)
  refine ⟨fun i m ys H' => m = bs.length - i ∧ i ≤ bs.length ∧ Pv i ys H', ⟨bs.length, by simp, Nat.zero_le _, Same.new hD, upd_same, by simpa using Paired.nil⟩, ?_⟩
  rintro i m ys H' ⟨rfl, hi, sm, hL, pr⟩
  refine ⟨hL, ?_⟩
  by_cases hlt : i < bs.length
  · have hx : bs[i]? = some bs[i] := by simp [hlt]
    have hmem : bs[i] ∈ bs := List.getElem_mem hlt
    have htake : bs.take (i + 1) = bs.take i ++ [bs[i]] := by rw [List.take_add_one, hx]; rfl
    obtain ⟨g1, g2⟩ := (hJ H' sm).1 i _ hx
    have hyl : ys.length ≤ i := by
      have e := prd_len pr
      rw [List.length_map] at e
      have e2 := List.length_filter_le p (bs.take i)
      rw [List.length_take] at e2
      omega
    refine .inr ⟨g1, Pv (i + 1), fun zs H'' p' => ⟨bs.length - (i + 1), by omega, rfl, hlt, p'⟩, fun v H2 y => ?_⟩
    obtain ⟨e, y'⟩ := g2 v H2 y
    subst e; subst y'
    refine ht _ _ hmem sm _ fun H3 s3 => ?_
    have sm3 : Same H H3 := sm.trans s3
    have pr3 : Paired (R H3) ys (((bs.take i).filter p).map f) := prd_imp (fun x y r => mono _ _ _ _ s3.tk r) pr
    refine if2 (fun hp => ?_) (fun hp => ?_)
    · refine he _ _ hmem hp sm3 _ fun y4 H4 s4 r4 => ?_
      have hL4 : H4 D = some (.lst ys) := s4 _ _ (s3 _ _ hL)
      refine ⟨hL4, by omega, (sm3.trans s4).upd hD, upd_same, ?_⟩
      rw [htake, List.filter_append, List.map_append]
      have e1 : List.filter p [bs[i]] = [bs[i]] := by simp [hp]
      rw [e1]
      refine prd_append (prd_imp (fun x y r => mono _ _ _ _ (s4.tk.trans (tkeep hL4)) r) pr3) (.cons (mono _ _ _ _ (tkeep hL4) r4) .nil)
    · refine ⟨sm3, s3 _ _ hL, ?_⟩
      rw [htake, List.filter_append, List.map_append]
      have e1 : List.filter p [bs[i]] = [] := by simp [hp]
      rw [e1]
      simpa using pr3
  · have e : i = bs.length := by omega
    subst e
    refine .inl ⟨(hJ H' sm).2, hd D ys H' hD sm hL ?_⟩
    rwa [List.take_length] at pr
theorem it_range (H : Hp) (lo : Int) (n : Nat) : ∀ H', Same H H' → (∀ i b, ((List.range n).map fun (i : Nat) => lo + (i : Int))[i]? = some b → (Itr lo n).go i H' ∧ ∀ v H2, (Itr lo n).yld i H' v H2 → v = V.int b ∧ H2 = H') ∧ (Itr lo n).stop ((List.range n).map fun (i : Nat) => lo + (i : Int)).length H' := by
  intro H' _
  refine ⟨fun i b e => ?_, by show n ≤ _; simp⟩
  rw [List.getElem?_map] at e
  by_cases hi : i < n
  · rw [List.getElem?_range hi] at e
    have e : lo + (i : Int) = b := Option.some.inj e
    refine ⟨hi, fun v H2 y => ⟨?_, y.1⟩⟩
    rw [y.2, e]
  · rw [List.getElem?_eq_none (by simpa using hi)] at e
    cases e
theorem it_tup {K : PySem.W.Frag} {H : Hp} {a : Addr} {β : Type} (bs : List β) (val : β → V) (h : SqT K H a (bs.map val)) : ∀ H', Same H H' → (∀ i b, bs[i]? = some b → (Itt K a).go i H' ∧ ∀ v H2, (Itt K a).yld i H' v H2 → v = val b ∧ H2 = H') ∧ (Itt K a).stop bs.length H' := by
  intro H' sm
  have h' := sm.seqT h
  have e1 : ∀ i b, bs[i]? = some b → (bs.map val)[i]? = some (val b) := fun i b e => by rw [List.getElem?_map, e]; rfl
  refine ⟨fun i b e => ⟨⟨_, _, h', e1 i b e⟩, fun v H2 y => ⟨?_, y.1⟩⟩, ⟨_, h', by simp⟩⟩
  have q := y.2 _ h'
  rw [e1 i b e] at q
  exact (Option.some.inj q).symm
theorem it_list {K : PySem.W.Frag} {H : Hp} {a : Addr} {β : Type} (bs : List β) (val : β → V) (h : SqL K H a (bs.map val)) : ∀ H', Same H H' → (∀ i b, bs[i]? = some b → (Itl K a).go i H' ∧ ∀ v H2, (Itl K a).yld i H' v H2 → v = val b ∧ H2 = H') ∧ (Itl K a).stop bs.length H' := by
  intro H' sm
  have h' := sm.seq h
  have e1 : ∀ i b, bs[i]? = some b → (bs.map val)[i]? = some (val b) := fun i b e => by rw [List.getElem?_map, e]; rfl
  refine ⟨fun i b e => ⟨⟨_, _, h', e1 i b e⟩, fun v H2 y => ⟨?_, y.1⟩⟩, ⟨_, h', by simp⟩⟩
  have q := y.2 _ h'
  rw [e1 i b e] at q
  exact (Option.some.inj q).symm
end L2
namespace STab
open PySem PySem.SetTable

def Srt (xs : Array Nat) : Prop := ∀ i j (hi : i < j) (hj : j < xs.size), xs[i]'(Nat.lt_trans hi hj) < xs[j]
theorem Srt.nil : Srt #[] := fun _ _ _ hj => absurd hj (by simp)
theorem below_go {xs : Array Nat} (j : Nat) : ∀ (fuel lo hi : Nat), hi - lo ≤ fuel → lo ≤ hi → hi ≤ xs.size → Srt xs →
    (∀ i (h : i < xs.size), i < lo → xs[i] < j) → (∀ i (h : i < xs.size), hi ≤ i → j ≤ xs[i]) →
    lo ≤ below.go xs j fuel lo hi ∧ below.go xs j fuel lo hi ≤ hi ∧ (∀ i (h : i < xs.size), i < below.go xs j fuel lo hi → xs[i] < j) ∧ (∀ i (h : i < xs.size), below.go xs j fuel lo hi ≤ i → j ≤ xs[i])
  | 0, lo, hi, hf, hl, hs, _, h1, h2 => by
    have e : lo = hi := by omega
    subst e
    exact ⟨Nat.le_refl _, Nat.le_refl _, h1, h2⟩
  | fuel + 1, lo, hi, hf, hl, hs, srt, h1, h2 => by
    unfold below.go
    by_cases hlt : lo < hi
    · rw [if_pos hlt]
      have hm : (lo + hi) / 2 < xs.size := by omega
      have hd : xs.getD ((lo + hi) / 2) j = xs[(lo + hi) / 2] := by simp [Array.getD, hm]
      simp only [hd]
      by_cases hx : xs[(lo + hi) / 2] < j
      · rw [if_pos hx]
        have r := below_go j fuel ((lo + hi) / 2 + 1) hi (by omega) (by omega) hs srt (fun i h hi' => by
          by_cases e : i = (lo + hi) / 2
          · subst e; exact hx
          · exact Nat.lt_trans (srt i ((lo + hi) / 2) (by omega) hm) hx) h2
        exact ⟨by omega, r.2.1, r.2.2.1, r.2.2.2⟩
      · rw [if_neg hx]
        have r := below_go j fuel lo ((lo + hi) / 2) (by omega) (by omega) (by omega) srt h1 (fun i h hi' => by
          by_cases e : i = (lo + hi) / 2
          · subst e; exact Nat.le_of_not_lt hx
          · exact Nat.le_trans (Nat.le_of_not_lt hx) (Nat.le_of_lt (srt ((lo + hi) / 2) i (by omega) h)))
        exact ⟨r.1, by omega, r.2.2.1, r.2.2.2⟩
    · rw [if_neg hlt]
      have e : lo = hi := by omega
      subst e
      exact ⟨Nat.le_refl _, Nat.le_refl _, h1, h2⟩
theorem below_spec {xs : Array Nat} (srt : Srt xs) (j : Nat) : below xs j ≤ xs.size ∧ (∀ i (h : i < xs.size), i < below xs j → xs[i] < j) ∧ (∀ i (h : i < xs.size), below xs j ≤ i → j ≤ xs[i]) := by
  have r := below_go j xs.size 0 xs.size (by omega) (Nat.zero_le _) (Nat.le_refl _) srt (fun i h hi => absurd hi (Nat.not_lt_zero _)) (fun i h hi => absurd h (Nat.not_lt.mpr hi))
  exact ⟨r.2.1, r.2.2.1, r.2.2.2⟩
theorem below_next {xs : Array Nat} (srt : Srt xs) {i : Nat} (h : i < xs.size) : below xs (xs[i] + 1) = i + 1 := by
  obtain ⟨a, b, c⟩ := below_spec srt (xs[i] + 1)
  apply Nat.le_antisymm
  · apply Nat.le_of_not_lt
    intro q
    have hz : i + 1 < xs.size := Nat.lt_of_lt_of_le q a
    have := b (i + 1) hz q
    have := srt i (i + 1) (Nat.lt_succ_self _) hz
    omega
  · apply Nat.le_of_not_lt
    intro q
    have := c i h (by omega)
    omega
theorem below_zero {xs : Array Nat} (srt : Srt xs) : below xs 0 = 0 := by
  obtain ⟨a, b, c⟩ := below_spec srt 0
  apply Nat.eq_zero_of_not_pos
  intro q
  have := b 0 (by omega) q
  omega
theorem not_at {xs : Array Nat} (srt : Srt xs) {j : Nat} (h : xs[below xs j]? ≠ some j) : ∀ i (hi : i < xs.size), xs[i] ≠ j := by
  intro i hi e
  obtain ⟨a, b, c⟩ := below_spec srt j
  have e1 : below xs j = i := by
    apply Nat.le_antisymm
    · apply Nat.le_of_not_lt
      intro q
      have := b i hi q
      omega
    · apply Nat.le_of_not_lt
      intro q
      have z : below xs j < xs.size := by omega
      have := c (below xs j) z (Nat.le_refl _)
      have := srt (below xs j) i q hi
      omega
  apply h
  rw [e1, ← e]
  simp [hi]
theorem insertAt_size {α : Type} (xs : Array α) (p : Nat) (x : α) (h : p ≤ xs.size) : (insertAt xs p x).size = xs.size + 1 := by
  unfold insertAt
  simp only [Array.size_append, Array.size_push, Array.size_extract]
  omega
theorem insertAt_get {α : Type} (xs : Array α) (p : Nat) (x : α) (h : p ≤ xs.size) (i : Nat) (hi : i < (insertAt xs p x).size) :
    (insertAt xs p x)[i] = if h1 : i < p then xs[i]'(by omega) else if h2 : i = p then x else xs[i - 1]'(by rw [insertAt_size xs p x h] at hi; omega) := by
  have hs := insertAt_size xs p x h
  unfold insertAt at hi ⊢
  rw [Array.getElem_append]
  have e0 : ((xs.extract 0 p).push x).size = p + 1 := by
    simp only [Array.size_push, Array.size_extract]; omega
  by_cases h1 : i < p
  · rw [dif_pos h1, dif_pos (by rw [e0]; omega)]
    rw [Array.getElem_push, dif_pos (by simp only [Array.size_extract]; omega)]
    simp
  · rw [dif_neg h1]
    by_cases h2 : i = p
    · subst h2
      rw [dif_pos rfl, dif_pos (by rw [e0]; omega)]
      rw [Array.getElem_push, dif_neg (by simp only [Array.size_extract]; omega)]
    · rw [dif_neg h2, dif_neg (by rw [e0]; omega)]
      simp only [Array.getElem_extract]
      congr 1
      rw [e0]
      omega
theorem Srt.insert {xs : Array Nat} (srt : Srt xs) {j : Nat} (h : ∀ i (hi : i < xs.size), xs[i] ≠ j) : Srt (insertAt xs (below xs j) j) := by
  obtain ⟨a, b, c⟩ := below_spec srt j
  intro i k hik hk
  have hs := insertAt_size xs (below xs j) j a
  rw [insertAt_get xs _ j a i, insertAt_get xs _ j a k]
  rw [hs] at hk
  by_cases h1 : i < below xs j
  · rw [dif_pos h1]
    by_cases h2 : k < below xs j
    · rw [dif_pos h2]; exact srt i k hik (by omega)
    · rw [dif_neg h2]
      by_cases h3 : k = below xs j
      · rw [dif_pos h3]; exact b i (by omega) h1
      · rw [dif_neg h3]; exact srt i (k - 1) (by omega) (by omega)
  · have h2 : ¬ k < below xs j := by omega
    rw [dif_neg h1, dif_neg h2]
    have h3 : ¬ k = below xs j := by omega
    rw [dif_neg h3]
    by_cases h4 : i = below xs j
    · rw [dif_pos h4]
      have q := c (k - 1) (by omega) (by omega)
      have q2 := h (k - 1) (by omega)
      omega
    · rw [dif_neg h4]; exact srt (i - 1) (k - 1) (by omega) (by omega)
theorem Srt.range (n : Nat) : Srt (Array.range n) := fun i j hi hj => by simpa using hi
structure Tb (t : SetTable) (led : Bool) : Prop where
  dm : t.dummies = #[]
  srt : Srt t.place
  ld : t.led = led
theorem Tb.fresh (a b : Nat) (led : Bool) : Tb (.fresh a b led) led := ⟨rfl, Srt.nil, rfl⟩
theorem Tb.standIn {t : SetTable} {led : Bool} (h : Tb t led) (n : Nat) : Tb (t.standIn n) led := ⟨rfl, Srt.range n, h.ld⟩
theorem has_nil (j : Nat) : has #[] j = false := by
  unfold has
  simp
theorem slot_empty {t : SetTable} {led : Bool} (h : Tb t led) {j : Nat} (e : t.slot j = .empty) : ∀ i (hi : i < t.place.size), t.place[i] ≠ j := by
  refine not_at h.srt ?_
  intro q
  unfold SetTable.slot at e
  simp only [q, beq_self_eq_true, if_true] at e
  cases e
theorem slot_nodummy {t : SetTable} {led : Bool} (h : Tb t led) (j : Nat) : t.slot j ≠ .dummy := by
  intro e
  unfold SetTable.slot at e
  simp only [h.dm, has_nil] at e
  split at e
  · cases e
  · simp at e
theorem probe_free {t : SetTable} {led : Bool} (T : Tb t led) (f : Nat → Int) (h : Int) : ∀ (fuel : Nat) (p : Probe) (j : Nat) (d : Option Nat), p.dummy = none → probe.go t f h fuel p = some (.empty j d) → t.slot j = .empty ∧ d = none
  | 0, p, j, d, _, e => by unfold probe.go at e; cases e
  | fuel + 1, p, j, d, hp, e => by
    unfold probe.go at e
    have adv : (t.advance p).dummy = none := by
      unfold advance
      split <;> exact hp
    cases q : t.slot p.j with
    | empty =>
      rw [q] at e
      simp only [Option.some.injEq, Met.empty.injEq] at e
      exact ⟨by rw [← e.1]; exact q, by rw [← e.2]; exact hp⟩
    | dummy => exact absurd q (slot_nodummy T p.j)
    | live i =>
      rw [q] at e
      simp only at e
      split at e
      · cases e
      · exact probe_free T f h fuel _ j d adv e
theorem Tb.put {t : SetTable} {led : Bool} (h : Tb t led) {j : Nat} (e : t.slot j = .empty) : Tb (t.put j).1 led := by
  refine ⟨?_, h.srt.insert (slot_empty h e), h.ld⟩
  show (if has t.dummies j then eraseAt t.dummies (below t.dummies j) else t.dummies) = #[]
  rw [h.dm, has_nil]
  rfl
theorem Tb.layNew {t : SetTable} {led : Bool} (T : Tb t led) (es : Array (Int × Value)) (h : Int) (x : Value) : Tb (layNew t es h x).2.1 led := by
  unfold PySem.layNew
  cases q : t.freeSlot h with
  | none => exact T.standIn _
  | some r =>
    obtain ⟨slot, wd⟩ := r
    have hs : t.slot slot = .empty := by
      unfold SetTable.freeSlot SetTable.probe at q
      split at q
      · rename_i j dummy e
        obtain ⟨a, b⟩ := probe_free T _ h _ _ _ _ rfl e
        subst b
        simp only [Option.some.injEq, Prod.mk.injEq, Option.getD_none] at q
        rw [← q.1]; exact a
      · cases q
    have T1 := T.put hs
    show Tb ((t.put slot).1.orStandIn _) led
    unfold SetTable.orStandIn
    split
    · exact T1
    · exact T1.standIn _
theorem srt_filterMap (f : Nat → Option Nat) : ∀ (a n : Nat), ((List.range' a n).filterMap fun j => (f j).map fun k => (j, k)).map (·.1) |>.Pairwise (· < ·)
  | _, 0 => by simp
  | a, n + 1 => by
    have ih := srt_filterMap f (a + 1) n
    rw [List.range'_succ, List.filterMap_cons]
    cases q : f a with
    | none => simpa [q] using ih
    | some k =>
      simp only [Option.map_some, List.map_cons, List.pairwise_cons]
      refine ⟨fun b hb => ?_, ih⟩
      obtain ⟨p, hp, rfl⟩ := List.mem_map.mp hb
      obtain ⟨j, hj, e⟩ := List.mem_filterMap.mp hp
      have hj' := (List.mem_range'_1.mp hj).1
      cases q2 : f j with
      | none => rw [q2] at e; cases e
      | some k2 =>
        rw [q2] at e
        have e : (j, k2) = p := Option.some.inj e
        rw [← e]
        exact hj'
theorem srt_of_list {l : List Nat} (h : l.Pairwise (· < ·)) : Srt l.toArray := fun i j hi hj => by
  simp only [List.getElem_toArray]
  exact List.pairwise_iff_getElem.mp h i j _ _ hi
theorem Tb.relay {t : SetTable} {led : Bool} (T : Tb t led) (es : Array (Int × Value)) (w : Nat) : Tb (relayAll t es w).2.1 led := by
  unfold relayAll
  cases q : t.relaid (es.map (·.1)) w with
  | none => exact T.standIn _
  | some r =>
    obtain ⟨t', order⟩ := r
    simp only
    split
    · unfold SetTable.relaid SetTable.laid at q
      cases q2 : layClean (sizeAbove w - 1) (es.map (·.1)) with
      | none => rw [q2] at q; cases q
      | some owner =>
        rw [q2] at q
        have q := Option.some.inj q
        simp only [Prod.mk.injEq] at q
        rw [← q.1]
        refine ⟨rfl, ?_, T.ld⟩
        refine srt_of_list ?_
        have z := srt_filterMap (fun j => owner.getD j none) 0 (sizeAbove w - 1 + 1)
        rw [← List.range_eq_range'] at z
        exact z
    · exact T.standIn _
end STab
namespace STab
open PySem

def ikey (e : Int × Value) : Int := match e.2 with
  | .int k _ => k
  | _ => 0
section
variable {prog : Program} {w : World} {A : Around} {E : Value → Shared → Prop} {s : Shared} {a : Addr}
theorem ikey_is {es : List (Int × Value)} (h : ElemsOf (intKind prog w) es) {e : Int × Value} (he : e ∈ es) (k : Int) : (intKind prog w).is k e.2 = decide (ikey e = k) := by
  obtain ⟨⟨k', h1, _⟩, _⟩ := h e he
  obtain ⟨tk, e2⟩ := Value.isInt_shape (k := k') (v := e.2) h1
  have q : ikey e = k' := by unfold ikey; rw [e2]
  rw [q, e2]
  show Value.isInt k (.int k' tk) = _
  rw [Bool.eq_iff_iff]
  simp [Value.isInt]
def SetI (prog : Program) (w : World) (h : Heap) (a : Addr) (led : Bool) (ks : List Int) : Prop :=
  ∃ (o : Obj) (es : Array (Int × Value)) (ep : Nat) (t : SetTable), h.get? a = some o ∧ o.ExactSet ∧ o.data = .set es ep t ∧ ElemsOf (intKind prog w) es.toList ∧ es.size < scanBound ∧ t.fits es.size = true ∧ Tb t led ∧ (es.toList.map ikey).Perm ks
theorem SetI.keep {h h' : Heap} {led : Bool} {ks : List Int} (x : SetI prog w h a led ks) (k : ∀ o, h.get? a = some o → h'.get? a = some o) : SetI prog w h' a led ks := by
  obtain ⟨o, es, ep, t, ho, r⟩ := x
  exact ⟨o, es, ep, t, k o ho, r⟩
theorem SetI.typeIs {led : Bool} {ks : List Int} (x : SetI prog w s.heap a led ks) : s.TypeIs (.ref a) "set" := by
  obtain ⟨o, es, ep, t, ho, hx, _⟩ := x
  exact ⟨o, ho, hx.1⟩
theorem SetI.stored {h : Heap} {o : Obj} {es es' : Array (Int × Value)} {ep : Nat} {t t' : SetTable} {led : Bool} {ks : List Int} (ho : h.get? a = some o) (hx : o.ExactSet) (hd : o.data = .set es ep t) (he : ElemsOf (intKind prog w) es'.toList)
    (hb : es'.size < scanBound) (hf : t'.fits es'.size = true) (T : Tb t' led) (p : (es'.toList.map ikey).Perm ks) :
    (h.update a (Obj.putSet es' t')).get? a = some { o with data := .set es' (ep + 1) t' } ∧ SetI prog w (h.update a (Obj.putSet es' t')) a led ks := by
  have g := Heap.get?_update_self (Obj.putSet es' t') ho (by rw [putSet_of es' t' hd]; rfl)
  rw [putSet_of es' t' hd] at g
  exact ⟨g, _, es', ep + 1, t', g, hx, rfl, he, hb, hf, T, p⟩
theorem add_int {k : Int} {tk : Tok} {led : Bool} {ks : List Int} {Q : Bool → Shared → Prop} (hS : SetI prog w s.heap a led ks) (room : ks.length + 1 < scanBound)
    (h : ∀ h', Heap.SameBut a s.heap h' → SetI prog w h' a led (if k ∈ ks then ks else k :: ks) → Q (decide (¬ k ∈ ks)) { s with heap := h' }) :
    wpAny (model prog w) A (setAddHashed a (.int k tk) (hashInt k)) Q E s := by
  obtain ⟨o, es, ep, t, ho, hx, hd, hel, hb, hf, T, pm⟩ := hS
  have hlen : es.size = ks.length := by rw [← pm.length_eq, List.length_map, Array.length_toList]
  have kis : (intKind prog w).is k (.int k tk) = true := by show Value.isInt k (.int k tk) = true; simp [Value.isInt]
  have found : ∀ e ∈ es.toList, (intKind prog w).is k e.2 = decide (ikey e = k) := fun e he => ikey_is hel he k
  unfold setAddHashed setAddHashedIn
  refine wpAny_holding (wpAny_bind (wpAny_setState_of ho hd hf ?_))
  dsimp only
  rw [byScan_of (knd := intKind prog w) (x := .int k tk) rfl hb hel]
  simp only [if_true]
  unfold setAddByScan
  refine wpAny_bind (wpAny_bind (wpAny_rule (wpAny_bind (wpAny_setScan_of (knd := intKind prog w) (k := k) kis ho hd hf hel ?_))))
  cases q : es.toList.findIdx? (fun e => (intKind prog w).is k e.2) with
  | some j =>
    obtain ⟨hj, pj, _⟩ := List.findIdx?_eq_some_iff_getElem.mp q
    have hm : k ∈ ks := by
      refine pm.mem_iff.mp (List.mem_map.mpr ⟨es.toList[j], List.getElem_mem hj, ?_⟩)
      rw [found _ (List.getElem_mem hj)] at pj
      exact of_decide_eq_true pj
    have z := h s.heap (Heap.SameBut.refl a s.heap) (by rw [if_pos hm]; exact ⟨o, es, ep, t, ho, hx, hd, hel, hb, hf, T, pm⟩)
    rw [decide_eq_false (fun n => n hm)] at z
    exact wpAny_pure (wpAny_pure z)
  | none =>
    have hm : ¬ k ∈ ks := fun hk => by
      obtain ⟨e, he, e1⟩ := List.mem_map.mp (pm.mem_iff.mpr hk)
      have n := List.findIdx?_eq_none_iff.mp q e he
      rw [found e he, decide_eq_true e1] at n
      cases n
    have perm := layNew_perm t es (hashInt k) (.int k tk)
    have fit := layNew_fits t es (hashInt k) (.int k tk)
    have T1 := T.layNew es (hashInt k) (.int k tk)
    dsimp only
    show wpAny _ _ (match layNew t es (hashInt k) (.int k tk) with | (es, t, wasDummy, gave) => _) _ _ s
    generalize layNew t es (hashInt k) (.int k tk) = L at perm fit T1
    obtain ⟨es1, t1, wd, gave⟩ := L
    dsimp only at perm fit T1 ⊢
    rw [Array.toList_push] at perm
    have el1 : ElemsOf (intKind prog w) es1.toList := ((hel.push (knd := intKind prog w) (k := k) (x := .int k tk) kis rfl)).perm perm
    have pm1 : (es1.toList.map ikey).Perm (k :: ks) := by
      refine (perm.map ikey).trans ?_
      rw [List.map_append]
      exact (pm.append_right _).trans (List.perm_append_comm)
    have sz1 : es1.size = ks.length + 1 := by rw [← Array.length_toList, ← List.length_map (f := ikey), pm1.length_eq]; rfl
    have b1 : es1.size < scanBound := by omega
    have fin : ∀ h', Heap.SameBut a s.heap h' → SetI prog w h' a led (k :: ks) → Q true { s with heap := h' } := fun h' sb x => by
      have z := h h' sb (by rw [if_neg hm]; exact x)
      rw [decide_eq_true hm] at z
      exact z
    refine wpAny_bind (m := (match gave with | true => rule "set.scan.the-table-gave-way" | false => pure () : Sem Unit)) ?_
    have gw : ∀ (b : Bool) {s₁ : Shared} {Q' : Unit → Shared → Prop}, Q' () s₁ → wpAny (model prog w) A (match b with | true => rule "set.scan.the-table-gave-way" | false => pure () : Sem Unit) Q' E s₁ := fun b s₁ Q' z => by
      cases b with
      | true => exact wpAny_rule z
      | false => exact wpAny_pure z
    refine gw gave ?_
    -- the table behind the test of the hash
    have tail : ∀ t2 : SetTable, t2.fits es1.size = true → Tb t2 led → wpAny (model prog w) A (do
        storeSet a es1 t2
        if (!wd && t2.tooFull) = true then do
            (match (relayAll t2 es1 (SetTable.grown es1.size)).2.2 with | true => rule "set.scan.the-table-gave-way" | false => pure () : Sem Unit)
            storeSet a (relayAll t2 es1 (SetTable.grown es1.size)).1 (relayAll t2 es1 (SetTable.grown es1.size)).2.1
            pure (some true)
          else pure (some true))
        (fun r s' => wpAny (model prog w) A (match r with | some added => pure added | none => setAddHashedIn a (.int k tk) (hashInt k) 99999) Q E s') E s := by
      intro t2 f2 T2
      refine wpAny_bind (wpAny_storeSet_of ho hd ?_ (fits_of_scanBound b1))
      obtain ⟨g1, x1⟩ := SetI.stored (prog := prog) (w := w) ho hx hd el1 b1 f2 T2 pm1
      have sb1 := Heap.SameBut.update s.heap a (Obj.putSet es1 t2)
      split
      · have rp := relayAll_perm t2 es1 (SetTable.grown es1.size)
        have rf := relayAll_fits t2 es1 (SetTable.grown es1.size)
        have rT := T2.relay es1 (SetTable.grown es1.size)
        generalize relayAll t2 es1 (SetTable.grown es1.size) = R at rp rf rT
        obtain ⟨es2, t3, gv⟩ := R
        dsimp only at rp rf rT ⊢
        have sz2 : es2.size = es1.size := by rw [← Array.length_toList, rp.length_eq, Array.length_toList]
        have b2 : es2.size < scanBound := by omega
        refine wpAny_bind (gw gv ?_)
        refine wpAny_bind (wpAny_storeSet_of g1 rfl ?_ (fits_of_scanBound b2))
        obtain ⟨_, x2⟩ := SetI.stored (prog := prog) (w := w) g1 hx rfl (el1.perm rp) b2 rf rT ((rp.map ikey).trans pm1)
        exact wpAny_pure (wpAny_pure (fin _ (sb1.trans (Heap.SameBut.update _ a _)) x2))
      · exact wpAny_pure (wpAny_pure (fin _ sb1 x1))
    split
    · refine wpAny_bind ?_
      rw [hashByValue_scannable 8 (x := .int k tk) rfl]
      refine wpAny_pure ?_
      exact tail _ fit T1
    · exact wpAny_bind (wpAny_pure (tail _ fit T1))
end
end STab
namespace STab
open PySem PyProof.Rows

def addI (ks : List Int) (v : Int) : List Int := if v ∈ ks then ks else v :: ks
theorem mem_addI {ks : List Int} {v k : Int} : k ∈ addI ks v ↔ k = v ∨ k ∈ ks := by
  unfold addI
  split
  · constructor
    · exact .inr
    · rintro (rfl | h)
      · assumption
      · exact h
  · exact List.mem_cons
theorem nodup_addI {ks : List Int} {v : Int} (h : ks.Nodup) : (addI ks v).Nodup := by
  unfold addI
  split
  · exact h
  · exact List.nodup_cons.mpr ⟨by assumption, h⟩
theorem len_addI (ks : List Int) (v : Int) : (addI ks v).length ≤ ks.length + 1 := by
  unfold addI
  split
  · omega
  · simp
theorem mem_adds : ∀ {vs ks : List Int} {k : Int}, k ∈ vs.foldl addI ks ↔ k ∈ vs ∨ k ∈ ks
  | [], ks, k => by simp
  | v :: vs, ks, k => by
    rw [List.foldl_cons, mem_adds, mem_addI, List.mem_cons]
    constructor
    · rintro (h | rfl | h)
      · exact .inl (.inr h)
      · exact .inl (.inl rfl)
      · exact .inr h
    · rintro ((rfl | h) | h)
      · exact .inr (.inl rfl)
      · exact .inl h
      · exact .inr (.inr h)
theorem nodup_adds : ∀ {vs ks : List Int}, ks.Nodup → (vs.foldl addI ks).Nodup
  | [], _, h => h
  | v :: vs, ks, h => by rw [List.foldl_cons]; exact nodup_adds (nodup_addI h)
section
variable {prog : Program} {w : World} {A : Around} {R : Result → Shared → Prop} {I : Addr} {fp wr : List Addr} {G : Array GenState → Array GenState → Prop} {n : Nat} {P : Nat → Value → Prop} {St : Nat → Shared → Prop}
theorem fill_loop (W : WalksS prog w A.in1 I fp wr G n P St) (S : Addr) (out : S ∉ fp) (led : Bool) (val : Nat → Int) (hval : ∀ i v, P i v → ∃ t, v = .int (val i) t) :
    ∀ (m i : Nat) (ks : List Int) (s : Shared), i + m = n → St i s → SetI prog w s.heap S led ks → ks.length + m + 1 < scanBound →
      (∀ s', Moved (S :: wr) G s s' → SetI prog w s'.heap S led (((List.range' i m).map val).foldl addI ks) → R (.ok (.ret .none)) s') →
      codeAny (model prog w) A (.builtin "set.update.loop" ⟨[.ref S, .ref I], []⟩) R s
  | 0, i, ks, s, hn, st, hS, _, fin => by
    have e : i = n := by omega
    subst e
    refine codeAny_builtin F.entry_set_update_loop ?_
    rw [Around.under_plainId F.plain_set_update_loop _]
    show wpAny _ A.in1 (pyNext (.ref I) >>= _) _ _ s
    refine wpAny_bind (W.done s _ _ st fun s' mv => wpAny_pure (fin s' (mv.mono fun b hb => List.mem_cons_of_mem _ hb) (hS.keep fun o e => mv.heap S o (fun z => out (W.sub _ z)) e)))
  | m + 1, i, ks, s, hn, st, hS, room, fin => by
    refine codeAny_builtin F.entry_set_update_loop ?_
    rw [Around.under_plainId F.plain_set_update_loop _]
    show wpAny _ A.in1 (pyNext (.ref I) >>= _) _ _ s
    refine wpAny_bind (W.item i s _ _ (by omega) st fun v s' pv st' mv => ?_)
    obtain ⟨tk, rfl⟩ := hval i v pv
    have hS' := hS.keep fun o e => mv.heap S o (fun z => out (W.sub _ z)) e
    show wpAny _ A.in1 (holding [Value.int (val i) tk] (setAdd S (.int (val i) tk)) >>= _) _ _ s'
    unfold setAdd
    refine wpAny_bind (wpAny_holding (wpAny_holding (wpAny_bind ((intKind prog w).pyHash (k := val i) (intKind_is _ _ _ _) ?_))))
    refine add_int (s := { s' with toks := s'.toks + 1 }) hS' (by omega) fun h' sb x => ?_
    have room' : (addI ks (val i)).length + m + 1 < scanBound := by
      have := len_addI ks (val i)
      omega
    refine wpAny_pure ⟨plainId_quiet F.plain_set_update_loop _, fill_loop W S out led val hval m (i + 1) (addI ks (val i)) _ (by omega) (W.frame _ s' _ _ st' (Nat.le_succ _) fun b hb o e => ?_) x room' fun s'' mv'' x'' => ?_⟩
    · rw [sb.2 b (fun z : b = S => out (by rw [← z]; exact hb))]; exact e
    · refine fin s'' (Moved.trans W.gtrans ((mv.mono fun b hb => List.mem_cons_of_mem _ hb).then_heap (Nat.le_succ _) fun b o hb e => ?_) mv'') x''
      rw [sb.2 b (fun z : b = S => hb (by rw [z]; exact List.mem_cons_self))]; exact e
end

section
variable {prog : Program} {w : World} {A : Around} {E : Value → Shared → Prop} {s : Shared}
abbrev ledIn (w : World) : Bool := !(w.params.followText "set-order")
theorem new_set (a : Value) {Q1 : Value → Shared → Prop}
    (h : Q1 (.ref s.heap.objs.size) { s with heap := s.heap.push { cls := .type "set", dict := none, data := .set #[] 0 (.fresh 0 0 (ledIn w)) } }) :
    codeAny (model prog w) A (.call (.builtin "set.__new__") ⟨[.type "set", a], []⟩) (wants Q1 E) s := by
  refine codeAny_of_tree ?_
  show wpAny _ A.in1 (checkBuiltinCall "set.__new__" ⟨[.type "set", a], []⟩ >>= fun _ => again (.builtin "set.__new__" ⟨[.type "set", a], []⟩)) _ _ s
  refine wpAny_bind (wpAny_of_eq (PySem.F.newCall_set_1 a) (wpAny_pure ⟨plainId_quiet PySem.F.plain_set_new _, codeAny_builtin PySem.F.entry_set_new ?_⟩))
  rw [Around.under_plainId PySem.F.plain_set_new _]
  unfold Builtin.«set.__new__» Builtin.Frozenset.newClass
  have sub := sub_set_self
  obtain ⟨hp, g, d, tk, os⟩ := s
  dsimp only
  wp_walk
  refine wpAny_askSetting (wpAny_pure ?_)
  simp only [newObj]
  exact wpAny_bind (wpAny_alloc (wpAny_pure (wpAny_pure h)))

set_option maxHeartbeats 3200000 in
set_option maxRecDepth 100000 in
theorem set_of_list {l : Addr} {items : Array Value} {ns : List Int} {Q : Value → Shared → Prop} (calm : A.handled = none) (hl : s.heap.IsList l items) (hi : IntsAre items.toList ns) (hb : items.size + 1 < scanBound)
    (h : ∀ (h' : Heap) (tk : Nat), SetI prog w h' s.heap.objs.size (ledIn w) (ns.foldl addI []) → (∀ b o, s.heap.get? b = some o → h'.get? b = some o) → Q (.ref s.heap.objs.size) { s with heap := h', toks := tk }) :
    wpAny (model prog w) A (call (.type "set") [.ref l]) Q E s := by
  obtain ⟨c, tl, mro⟩ := PySem.F.called_set.mro
  have made := PySem.F.called_set.made
  have sub := PySem.F.called_set.sub
  refine wpAny_call (codeAny_of_tree ?_)
  show wpAny _ _ (callAny (.type "set") _) _ _ _
  refine wpAny_pure ⟨Code.quiet_builtin _ (by decide +kernel), codeAny_builtin PySem.F.entry_type_call ?_⟩
  rw [Around.under_plain (weight_type_call_type "set" [.ref l] []) rfl]
  have noT := PySem.F.called_set.notType
  have canC := PySem.F.called_set.canCreate
  have tc := PySem.F.typeCall_set_1 (.ref l)
  repeat (any_goals (first | assumption | wp_step))
  refine codeAny_mono (new_set (.ref l) (E := E) (Q1 := fun obj s1 => obj = .ref s.heap.objs.size ∧ s1 = { s with heap := s.heap.push { cls := .type "set", dict := none, data := .set #[] 0 (.fresh 0 0 (ledIn w)) } }) ⟨rfl, rfl⟩) fun r s1 hr => ?_
  cases r with
  | error e => exact hr
  | ok fl =>
    cases fl with
    | ret obj =>
      obtain ⟨rfl, rfl⟩ := hr
      have g0 : (s.heap.push { cls := .type "set", dict := none, data := .set #[] 0 (.fresh 0 0 (ledIn w)) }).get? s.heap.objs.size = some { cls := .type "set", dict := none, data := .set #[] 0 (.fresh 0 0 (ledIn w)) } := Heap.get?_push_size _ rfl
      have ty : Shared.TypeIs { s with heap := s.heap.push { cls := .type "set", dict := none, data := .set #[] 0 (.fresh 0 0 (ledIn w)) } } (.ref s.heap.objs.size) "set" := ⟨_, g0, rfl⟩
      have li := PySem.F.called_set.init.lookup
      have bi := PySem.F.called_set.init.bind (.ref s.heap.objs.size)
      repeat (any_goals (first | assumption | wp_step))
      refine codeAny_mono (codeAny_call_builtin (R := wants (fun r s2 => r = .none ∧ ∃ h' tk, s2 = { s with heap := h', toks := tk } ∧ SetI prog w h' s.heap.objs.size (ledIn w) (ns.foldl addI []) ∧ (∀ b o, s.heap.get? b = some o → h'.get? b = some o)) E)
        PySem.F.called_set.init.plain PySem.F.entry_set_init (check_set_init_1 ty ?_)) fun r2 s2 hr2 => ?_
      · obtain ⟨ol, hol, hcl, nl, hdl⟩ := hl
        obtain ⟨oc, od, odt, osl⟩ := ol
        simp only at hcl hdl
        subst hcl; subst hdl
        have hol' : (s.heap.push { cls := .type "set", dict := none, data := .set #[] 0 (.fresh 0 0 (ledIn w)) }).get? l = some { cls := .type "list", dict := od, data := .seq items nl, slots := osl } := Heap.get?_push_of_some _ hol
        have s1 := PySem.F.sub_list_set
        have s2 := PySem.F.sub_list_frozenset
        have ne : (Value.type "list" == Value.type "dict") = false := by decide
        have hl1 : (s.heap.push { cls := .type "set", dict := none, data := .set #[] 0 (.fresh 0 0 (ledIn w)) }).IsList l items := ⟨_, hol', rfl, nl, rfl⟩
        unfold Builtin.«set.__init__» noKeywords Builtin.Frozenset.updateFrom
        generalize ePI : pyIter = PI
        wp_walk
        subst ePI
        refine wpAny_pyIter_list hl1 (wpAny_bind (wpAny_runValue ?_))
        have lt : l < s.heap.objs.size := Heap.lt_size hol
        have calm3 : A.in1.in1.in1.handled = none := by simp [calm]
        have sz := Heap.size_push s.heap { cls := .type "set", dict := none, data := .set #[] 0 (.fresh 0 0 (ledIn w)) }
        have neI : l ≠ (s.heap.push { cls := .type "set", dict := none, data := .set #[] 0 (.fresh 0 0 (ledIn w)) }).objs.size := by rw [sz]; exact Nat.ne_of_lt (Nat.lt_succ_of_lt lt)
        have off : s.heap.objs.size ∉ [(s.heap.push { cls := .type "set", dict := none, data := .set #[] 0 (.fresh 0 0 (ledIn w)) }).objs.size, l] := fun z => by
          rw [sz] at z
          rcases List.mem_cons.mp z with z | z
          · exact absurd z (Nat.ne_of_lt (Nat.lt_succ_self _))
          · exact absurd (List.mem_singleton.mp z) (Nat.ne_of_gt lt)
        have vals : ∀ (i : Nat) (v : Value), items[i]? = some v → ∃ t, v = .int ((fun i => ns.getD i 0) i) t := fun i v hv => IntsAre.int_at hi i v (by rw [Array.getElem?_toList]; exact hv)
        have hlen : items.size = ns.length := by rw [← hi.length, Array.length_toList]
        refine fill_loop ((Walks.list calm3 _ l neI items).toS) s.heap.objs.size off (ledIn w) (fun i => ns.getD i 0) vals items.size 0 [] _ (Nat.zero_add _) ⟨⟨_, Heap.get?_push_size _ rfl, rfl, rfl⟩, (hl1.push _)⟩ ?set0 (by simpa using hb) ?after
        case set0 => exact ⟨_, #[], 0, _, Heap.get?_push_of_some _ g0, ⟨rfl, rfl, rfl⟩, rfl, (fun e he => by simp at he), by decide, by rfl, Tb.fresh 0 0 _, by simp⟩
        case after =>
          intro s' mv x'
          obtain ⟨h', g', d', tk', os'⟩ := s'
          have eg : g' = s.gens := mv.gens
          have ed : d' = s.drawn := mv.drawn
          have eo : os' = s.os := mv.os
          subst eg; subst ed; subst eo
          have ev : (List.range' 0 items.size).map (fun i => ns.getD i 0) = ns := by
            rw [hlen, ← List.range_eq_range']
            refine List.ext_getElem (by simp) fun i h1 h2 => ?_
            simp [h2]
          rw [ev] at x'
          show wpAny _ _ _ _ _ _
          refine wpAny_pure ?_
          show wpAny _ _ (ret Value.none) _ _ _
          refine wpAny_pure ⟨rfl, h', tk', rfl, x', fun b o e => ?_⟩
          have lb := Heap.lt_size e
          refine mv.heap b o (fun z => ?_) (Heap.get?_push_of_some _ (Heap.get?_push_of_some _ e))
          rcases List.mem_cons.mp z with z | z
          · exact absurd z (Nat.ne_of_lt lb)
          · rw [List.mem_singleton.mp z, sz] at lb
            exact absurd lb (Nat.not_lt.mpr (Nat.le_succ _))
      · cases r2 with
        | error e => exact hr2
        | ok fl2 =>
          cases fl2 with
          | ret r =>
            obtain ⟨rfl, h', tk, rfl, x', k'⟩ := hr2
            repeat (any_goals (first | assumption | wp_step))
            exact h _ _ x' k'
          | _ => exact hr2.elim
    | _ => exact hr.elim
end
end STab
namespace STab
open PySem PyProof.Rows

theorem slot_si_next : Slot "set_iterator" "__next__" "set_iterator.__next__" :=
  .of (owner := "set_iterator") (n := "__next__") (by rw [typeLookup_type, builtinLookup_eq_fast]; kernel_rfl) (by decide +kernel) (by decide +kernel) (by decide +kernel) (by first | exact .inl (by decide +kernel) | exact .inr (by decide +kernel)) (by rw [isSubtype_type]; kernel_rfl)
theorem entry_si_next : entryFor table "set_iterator.__next__" = some Builtin.«set_iterator.__next__» := entryFor_of_tree (by kernel_rfl)
theorem args_si_next (a : Value) : argsOk "set_iterator.__next__" ⟨[a], []⟩ := by
  unfold argsOk
  kernel_rfl
theorem entry_s_iter : entryFor table "set.__iter__" = some Builtin.«frozenset.__iter__» :=
  entryFor_alias (id' := "frozenset.__iter__") (by kernel_rfl) rfl (by decide +kernel) (by kernel_rfl)

section
variable {prog : Program} {w : World} {A : Around} {E : Value → Shared → Prop} {s : Shared}
theorem choose_ok {M : Model} {src : Source} {n : Nat} {Q : Nat → Shared → Prop} (hn : n ≠ 0) (h : ∀ k d, k < n → Q k { s with drawn := d }) : wpAny M A (choose src n) Q E s :=
  fun _ _ _ => ⟨hn, h _ _ (Nat.mod_lt _ (Nat.pos_of_ne_zero hn))⟩
theorem perm_pick {α : Type} {xs : List α} {k : Nat} {x : α} (h : xs[k]? = some x) : (x :: xs.eraseIdx k).Perm xs := by
  induction xs generalizing k with
  | nil => simp at h
  | cons y ys ih =>
    cases k with
    | zero =>
      have e : y = x := by simpa using h
      subst e
      simp
    | succ k =>
      have e := ih (k := k) (by simpa using h)
      rw [List.eraseIdx_cons_succ]
      exact (List.Perm.swap y x _).trans (e.cons y)
theorem draw_perm {α : Type} {M : Model} {Q : List α → Shared → Prop} : ∀ (n : Nat) (xs : List α) (s : Shared), xs.length = n → (∀ ys d, ys.Perm xs → Q ys { s with drawn := d }) → wpAny M A (drawOrder n xs) Q E s
  | 0, xs, s, hn, h => by
    have e : xs = [] := List.length_eq_zero_iff.mp hn
    subst e
    unfold drawOrder
    exact wpAny_pure (h [] s.drawn (List.Perm.refl _))
  | n + 1, xs, s, hn, h => by
    cases xs with
    | nil => simp at hn
    | cons y ys =>
      unfold drawOrder
      refine wpAny_bind (choose_ok (by simp) fun k d hk => ?_)
      have hx : (y :: ys)[k]? = some (y :: ys)[k] := by simp
      rw [hx]
      refine wpAny_bind (draw_perm n _ { s with drawn := d } ?_ fun zs d' pz => wpAny_pure ?_)
      · rw [List.length_eraseIdx, if_pos hk]
        simp only [List.length_cons] at hn ⊢
        omega
      · exact h _ d' ((pz.cons _).trans (perm_pick hx))
theorem pick_go {α : Type} (next : Nat → Nat) : ∀ (fuel k : Nat) (left : List α) (out : Array α), left.length ≤ fuel → (pickOrder.go next fuel k left out).toList.Perm (out.toList ++ left)
  | 0, k, left, out, h => by
    have e : left = [] := List.length_eq_zero_iff.mp (by omega)
    subst e
    unfold pickOrder.go
    simp
  | fuel + 1, k, left, out, h => by
    unfold pickOrder.go
    cases left with
    | nil => simp
    | cons y ys =>
      have hlt : next k % (y :: ys).length < (y :: ys).length := Nat.mod_lt _ (by simp)
      have hx : (y :: ys)[next k % (y :: ys).length]? = some (y :: ys)[next k % (y :: ys).length] := List.getElem?_eq_getElem hlt
      rw [hx]
      have ih := pick_go next fuel (k + 1) ((y :: ys).eraseIdx (next k % (y :: ys).length)) (out.push (y :: ys)[next k % (y :: ys).length]) (by rw [List.length_eraseIdx, if_pos hlt]; simp only [List.length_cons] at h ⊢; omega)
      refine ih.trans ?_
      rw [Array.toList_push, List.append_assoc]
      exact (List.Perm.refl _).append (perm_pick hx)
theorem pick_perm {α : Type} (next : Nat → Nat) (xs : Array α) : (pickOrder next xs).toList.Perm xs.toList := by
  have h := pick_go next xs.size 0 xs.toList #[] (by simp)
  simpa [pickOrder] using h
end
end STab
namespace STab
open PySem PyProof.Rows
section
variable {prog : Program} {w : World} {A : Around} {E : Value → Shared → Prop} {s : Shared} {a : Addr} {o : Obj} {es : Array (Int × Value)} {ep : Nat} {t : SetTable}
theorem byText_ok {Q : Bool → Shared → Prop} (h : Q (w.params.followText "set-order") s) : wpAny (model prog w) A setsByText Q E s := by
  unfold setsByText
  exact wpAny_bind (wpAny_askSetting (wpAny_pure h))
theorem setDrawn_ok {Q : Bool → Shared → Prop} (ho : s.heap.get? a = some o) (hd : o.data = .set es ep t) (hf : t.fits es.size = true) (h : Q (!(w.params.followText "set-order") && (!t.plain && decide (es.size > 1))) s) :
    wpAny (model prog w) A (setDrawn a) Q E s := by
  unfold setDrawn
  exact wpAny_bind (wpAny_setState_of ho hd hf (wpAny_bind (byText_ok (wpAny_pure h))))
theorem next_text {Q : Option (Value × Nat) → Shared → Prop} (slot i : Nat) (ho : s.heap.get? a = some o) (hd : o.data = .set es ep t) (hf : t.fits es.size = true) (hb : w.params.followText "set-order" = true)
    (h : Q (((pickOrder (w.params.setOrder a ep) es)[i]?).map fun e => (e.2, slot)) s) : wpAny (model prog w) A (setNext a slot i ep) Q E s := by
  unfold setNext
  refine wpAny_bind (wpAny_setState_of ho hd hf (wpAny_bind (byText_ok ?_)))
  rw [hb]
  simp only [if_true, bne_self_eq_false, Bool.false_eq_true, if_false]
  refine wpAny_bind ?_
  unfold setWalk
  refine wpAny_bind (wpAny_setState_of ho hd hf (wpAny_bind (byText_ok ?_)))
  rw [hb]
  simp only [if_true]
  exact wpAny_bind (wpAny_askSetting (wpAny_pure (wpAny_pure h)))
theorem next_place {Q : Option (Value × Nat) → Shared → Prop} (slot i : Nat) (ho : s.heap.get? a = some o) (hd : o.data = .set es ep t) (hf : t.fits es.size = true) (hb : w.params.followText "set-order" = false) (hl : t.led = true)
    (hp : (!t.plain && decide (es.size > 1)) = false)
    (h : Q (match es[SetTable.below t.place slot]?, t.place[SetTable.below t.place slot]? with | some (_, x), some j => some (x, j + 1) | _, _ => none) s) : wpAny (model prog w) A (setNext a slot i ep) Q E s := by
  unfold setNext
  refine wpAny_bind (wpAny_setState_of ho hd hf (wpAny_bind (byText_ok ?_)))
  rw [hb]
  simp only [Bool.false_eq_true, if_false]
  show wpAny _ _ (if (!t.plain && decide (es.size > 1)) = true then _ else _) _ _ s
  rw [hp, if_neg Bool.false_ne_true]
  refine wpAny_bind (m := (if (!t.led && !es.isEmpty) = true then unsupported "set:maker-not-led" else pure () : Sem Unit)) ?_
  rw [hl]
  exact wpAny_pure (wpAny_pure h)
theorem nextDrawn_ok {Q : Value → Shared → Prop} {i : Nat} {e : Int × Value} (ho : s.heap.get? a = some o) (hd : o.data = .set es ep t) (hf : t.fits es.size = true) (he : es[i]? = some e) (h : Q e.2 s) : wpAny (model prog w) A (setNextDrawn a i ep) Q E s := by
  unfold setNextDrawn
  refine wpAny_bind (wpAny_setState_of ho hd hf ?_)
  simp only [bne_self_eq_false, Bool.false_eq_true, if_false, he]
  exact wpAny_pure h

def SiObj (first : Value) (i S n ep : Nat) : Obj := { cls := .type "set_iterator", data := .fields #[first, rawInt i, .ref S, rawInt n, rawInt ep] }
theorem si_int {I S : Addr} {slot i : Nat} {Q : Option Value → Shared → Prop} (hI : s.heap.get? I = some (SiObj (rawInt slot) i S es.size ep)) (ho : s.heap.get? S = some o) (hd : o.data = .set es ep t) (hf : t.fits es.size = true)
    (h : wpAny (model prog w) A.in1 (setNext S slot i ep >>= fun r => match r with
            | some (x, next) => setField (.ref I) 0 (.int (next : Nat) 0) >>= fun _ => setField (.ref I) 1 (.int ((i : Int) + 1) 0) >>= fun _ => ret x
            | none => setField (.ref I) 2 .none >>= fun _ => newExc (.type "StopIteration") [] >>= fun x => raiseNew x : Sem Fin)
      (fun fin s' => ∃ r, fin = .done (.ret r) ∧ Q (some r) s') (fun e s' => wpAny (model prog w) A (isInstance e (.type "StopIteration") >>= fun b => if b = true then pure none else throw e) Q E s') s) :
    wpAny (model prog w) A (pyNext (.ref I)) Q E s := by
  have ty : s.TypeIs (.ref I) "set_iterator" := ⟨_, hI, rfl⟩
  unfold pyNext
  refine wpAny_bind (wpAny_attempt (wpAny_callSpecial?_slot (name := Str.ofString "__next__") ty slot_si_next (wpAny_call_entry slot_si_next ty entry_si_next ?_ (args_si_next _))))
  unfold Builtin.«set_iterator.__next__»
  refine wpAny_bind (m := slotArgs "__next__" 0 ⟨[.ref I], []⟩) (wpAny_pure ?_)
  refine wpAny_bind (wpAny_fieldsOf hI rfl ?_)
  simp only [rawInt]
  refine wpAny_bind (wpAny_setEntries_of ho hd hf ?_)
  simp only [bne_self_eq_false, Bool.false_eq_true, if_false, Int.toNat_natCast]
  refine wpAny_mono h (fun fin s' hq => ?_) fun e s' hq => hq
  obtain ⟨r, e, q⟩ := hq
  exact ⟨r, e, wpAny_pure q⟩
theorem stop_ok {Q : Option Value → Shared → Prop} (calm : A.handled = none) (h : ∀ h', (∀ b ob, s.heap.get? b = some ob → h'.get? b = some ob) → Q none { s with heap := h' }) :
    wpAny (model prog w) A.in1 (newExc (.type "StopIteration") [] >>= fun x => raiseNew x : Sem Fin) (fun fin s' => ∃ r, fin = .done (.ret r) ∧ Q (some r) s')
      (fun e s' => wpAny (model prog w) A (isInstance e (.type "StopIteration") >>= fun b => if b = true then pure none else throw e) Q E s') s := by
  refine wpAny_bind ?_
  simp only [newExc, newTuple]
  refine wpAny_bind (wpAny_newObj_type ?_ (by size_fits))
  refine wpAny_bind (m := firstArgMember _ _) (wpAny_of_eq (a := Value.none) (by first | rfl | (simp only [firstArgMember]; rfl)) (wpAny_newObj_type ?_ (by size_fits)))
  simp only [raiseNew]
  refine wpAny_bind (wpAny_handled ?_)
  have c1 : A.in1.handled = none := calm
  rw [c1]
  refine wpAny_bind (wpAny_pure (wpAny_throw ?_))
  refine wpAny_bind (wpAny_isInstance (T := "StopIteration") (b := true) ⟨_, Heap.get?_push_size _ rfl, rfl⟩ isSubtype_stop ?_)
  exact wpAny_pure (h _ fun b ob e => Heap.get?_push_of_some _ (Heap.get?_push_of_some _ e))
theorem put2 {I S n ep i : Nat} {first x : Value} {k : Nat} {Q : Unit → Shared → Prop} (hI : s.heap.get? I = some (SiObj first i S n ep)) (hk : k < 5)
    (h : ∀ h', h'.get? I = some { cls := .type "set_iterator", data := .fields ((#[first, rawInt i, .ref S, rawInt n, rawInt ep] : Array Value).setIfInBounds k x) } → (∀ b, b ≠ I → h'.get? b = s.heap.get? b) → Q () { s with heap := h' }) :
    wpAny (model prog w) A (setField (.ref I) k x) Q E s := by
  refine wpAny_setField hI rfl hk (h _ ?_ fun b hb => Heap.get?_update_other _ _ (Ne.symm hb))
  have g := Heap.get?_update_self (Obj.mapFields (·.setIfInBounds k x)) hI rfl
  exact g
theorem si_int_item {I S : Addr} {slot i nx : Nat} {v : Value} {Q : Option Value → Shared → Prop} (hI : s.heap.get? I = some (SiObj (rawInt slot) i S es.size ep)) (ho : s.heap.get? S = some o) (hd : o.data = .set es ep t) (hf : t.fits es.size = true)
    (hn : ∀ (Q' : Option (Value × Nat) → Shared → Prop) (E' : Value → Shared → Prop), Q' (some (v, nx)) s → wpAny (model prog w) A.in1 (setNext S slot i ep) Q' E' s)
    (h : ∀ h', h'.get? I = some (SiObj (rawInt nx) (i + 1) S es.size ep) → (∀ b, b ≠ I → h'.get? b = s.heap.get? b) → Q (some v) { s with heap := h' }) : wpAny (model prog w) A (pyNext (.ref I)) Q E s := by
  refine si_int hI ho hd hf (wpAny_bind (hn _ _ ?_))
  refine wpAny_bind (put2 hI (by decide) fun h1 g1 k1 => ?_)
  have g1' : h1.get? I = some (SiObj (.int (nx : Nat) 0) i S es.size ep) := g1
  refine wpAny_bind (put2 (s := { s with heap := h1 }) g1' (by decide) fun h2 g2 k2 => wpAny_pure ⟨_, rfl, h h2 g2 fun b hb => (k2 b hb).trans (k1 b hb)⟩)
theorem si_int_end {I S : Addr} {slot i : Nat} {Q : Option Value → Shared → Prop} (calm : A.handled = none) (hI : s.heap.get? I = some (SiObj (rawInt slot) i S es.size ep)) (ho : s.heap.get? S = some o) (hd : o.data = .set es ep t) (hf : t.fits es.size = true)
    (hn : ∀ (Q' : Option (Value × Nat) → Shared → Prop) (E' : Value → Shared → Prop), Q' none s → wpAny (model prog w) A.in1 (setNext S slot i ep) Q' E' s)
    (h : ∀ h', (∀ b ob, b ≠ I → s.heap.get? b = some ob → h'.get? b = some ob) → Q none { s with heap := h' }) : wpAny (model prog w) A (pyNext (.ref I)) Q E s := by
  refine si_int hI ho hd hf (wpAny_bind (hn _ _ ?_))
  refine wpAny_bind (put2 hI (by decide) fun h1 g1 k1 => ?_)
  exact stop_ok (s := { s with heap := h1 }) calm fun h2 k2 => h h2 fun b ob hb e => k2 b ob ((k1 b hb).trans e)
theorem si_ref_item {I S p : Addr} {i : Nat} {op : Obj} {pl : Array Value} {np j : Nat} {tk : Tok} {e : Int × Value} {Q : Option Value → Shared → Prop} (hI : s.heap.get? I = some (SiObj (.ref p) i S es.size ep)) (ho : s.heap.get? S = some o) (hd : o.data = .set es ep t) (hf : t.fits es.size = true)
    (hp : s.heap.get? p = some op) (hq : op.data = .seq pl np) (hj : pl[i]? = some (.int (j : Nat) tk)) (he : es[j]? = some e)
    (h : ∀ h', h'.get? I = some (SiObj (.ref p) (i + 1) S es.size ep) → (∀ b, b ≠ I → h'.get? b = s.heap.get? b) → Q (some e.2) { s with heap := h' }) : wpAny (model prog w) A (pyNext (.ref I)) Q E s := by
  have ty : s.TypeIs (.ref I) "set_iterator" := ⟨_, hI, rfl⟩
  unfold pyNext
  refine wpAny_bind (wpAny_attempt (wpAny_callSpecial?_slot (name := Str.ofString "__next__") ty slot_si_next (wpAny_call_entry slot_si_next ty entry_si_next ?_ (args_si_next _))))
  unfold Builtin.«set_iterator.__next__»
  refine wpAny_bind (m := slotArgs "__next__" 0 ⟨[.ref I], []⟩) (wpAny_pure (wpAny_bind (wpAny_fieldsOf hI rfl ?_)))
  simp only [rawInt]
  refine wpAny_bind (wpAny_setEntries_of ho hd hf ?_)
  simp only [bne_self_eq_false, Bool.false_eq_true, if_false, Int.toNat_natCast]
  refine wpAny_bind (wpAny_seqItems hp hq ?_)
  simp only [hj]
  refine wpAny_bind (nextDrawn_ok (i := j) ho hd hf he ?_)
  refine wpAny_bind (put2 hI (by decide) fun h1 g1 k1 => wpAny_pure ⟨_, rfl, wpAny_pure (h h1 g1 k1)⟩)
theorem si_ref_end {I S p : Addr} {i : Nat} {op : Obj} {pl : Array Value} {np : Nat} {Q : Option Value → Shared → Prop} (calm : A.handled = none) (hI : s.heap.get? I = some (SiObj (.ref p) i S es.size ep)) (ho : s.heap.get? S = some o) (hd : o.data = .set es ep t) (hf : t.fits es.size = true)
    (hp : s.heap.get? p = some op) (hq : op.data = .seq pl np) (hj : pl[i]? = none)
    (h : ∀ h', (∀ b ob, b ≠ I → s.heap.get? b = some ob → h'.get? b = some ob) → Q none { s with heap := h' }) : wpAny (model prog w) A (pyNext (.ref I)) Q E s := by
  have ty : s.TypeIs (.ref I) "set_iterator" := ⟨_, hI, rfl⟩
  unfold pyNext
  refine wpAny_bind (wpAny_attempt (wpAny_callSpecial?_slot (name := Str.ofString "__next__") ty slot_si_next (wpAny_call_entry slot_si_next ty entry_si_next ?_ (args_si_next _))))
  unfold Builtin.«set_iterator.__next__»
  refine wpAny_bind (m := slotArgs "__next__" 0 ⟨[.ref I], []⟩) (wpAny_pure (wpAny_bind (wpAny_fieldsOf hI rfl ?_)))
  simp only [rawInt]
  refine wpAny_bind (wpAny_setEntries_of ho hd hf ?_)
  simp only [bne_self_eq_false, Bool.false_eq_true, if_false, Int.toNat_natCast]
  refine wpAny_bind (wpAny_seqItems hp hq ?_)
  simp only [hj]
  refine wpAny_bind (put2 hI (by decide) fun h1 g1 k1 => ?_)
  have g1' : h1.get? I = some (SiObj (.int 0 0) i S es.size ep) := g1
  refine wpAny_bind (put2 (s := { s with heap := h1 }) g1' (by decide) fun h2 g2 k2 => ?_)
  have fin := stop_ok (prog := prog) (w := w) (E := E) (Q := Q) (s := { s with heap := h2 }) calm fun h3 k3 => h h3 fun b ob hb e => k3 b ob ((k2 b hb).trans ((k1 b hb).trans e))
  refine wpAny_mono fin (fun fl s' hq => ?_) fun e s' hq => hq
  obtain ⟨r, e, q⟩ := hq
  exact ⟨r, e, wpAny_pure q⟩
end
end STab
namespace STab
open PySem PyProof.Rows
theorem slot_si_iter : Slot "set_iterator" "__iter__" "set_iterator.__iter__" :=
  .of (owner := "set_iterator") (n := "__iter__") (by rw [typeLookup_type, builtinLookup_eq_fast]; kernel_rfl) (by decide +kernel) (by decide +kernel) (by decide +kernel) (by first | exact .inl (by decide +kernel) | exact .inr (by decide +kernel)) (by rw [isSubtype_type]; kernel_rfl)
theorem entry_si_iter : entryFor table "set_iterator.__iter__" = some Builtin.«dict_keyiterator.__iter__» := entryFor_alias (id' := "dict_keyiterator.__iter__") (by kernel_rfl) rfl (by decide +kernel) (by kernel_rfl)
theorem args_si_iter (a : Value) : argsOk "set_iterator.__iter__" ⟨[a], []⟩ := by
  unfold argsOk
  kernel_rfl
section
variable {prog : Program} {w : World} {A : Around} {E : Value → Shared → Prop} {s : Shared}
theorem si_self {I S i n ep : Nat} {first : Value} {Q : Value → Shared → Prop} (hI : s.heap.get? I = some (SiObj first i S n ep)) (h : Q (.ref I) s) : wpAny (model prog w) A (pyIter (.ref I)) Q E s := by
  have ty : s.TypeIs (.ref I) "set_iterator" := ⟨_, hI, rfl⟩
  refine wpAny_pyIter_slot ty slot_si_iter (wpAny_call_entry slot_si_iter ty entry_si_iter ?_ (args_si_iter _))
  show wpAny _ _ (ret (.ref I)) _ _ s
  exact wpAny_pure ⟨_, rfl, "set_iterator", _, ty, slot_si_next.lookup, h⟩
theorem moved_of {I : Addr} {h' : Heap} {tk : Nat} (k : ∀ b ob, b ≠ I → s.heap.get? b = some ob → h'.get? b = some ob) (ht : s.toks ≤ tk) : Moved [I] (fun a b => b = a) s { s with heap := h', toks := tk } :=
  ⟨fun b ob hb e => k b ob (fun z => hb (List.mem_singleton.mpr z)) e, rfl, rfl, rfl, ht⟩
theorem walks_slot (calm : A.handled = none) {I S : Addr} (hne : I ≠ S) {o : Obj} {es : Array (Int × Value)} {ep : Nat} {t : SetTable} (hd : o.data = .set es ep t) (hf : t.fits es.size = true) (vs : List Value) (hl : vs.length = es.size) (sl : Nat → Nat)
    (hn : ∀ (i : Nat) (v : Value), vs[i]? = some v → ∀ (s : Shared) (Q' : Option (Value × Nat) → Shared → Prop) (E' : Value → Shared → Prop), s.heap.get? S = some o → Q' (some (v, sl (i + 1))) s → wpAny (model prog w) A.in1 (setNext S (sl i) i ep) Q' E' s)
    (hz : ∀ (s : Shared) (Q' : Option (Value × Nat) → Shared → Prop) (E' : Value → Shared → Prop), s.heap.get? S = some o → Q' none s → wpAny (model prog w) A.in1 (setNext S (sl es.size) es.size ep) Q' E' s) :
    WalksS prog w A I [I, S] [I] (fun a b => b = a) es.size (fun i v => vs[i]? = some v) (fun i s => s.heap.get? I = some (SiObj (rawInt (sl i)) i S es.size ep) ∧ s.heap.get? S = some o) where
  sub := fun b hb => by rw [List.mem_singleton.mp hb]; exact List.mem_cons_self
  grefl := fun _ => rfl
  gtrans := fun _ _ _ h1 h2 => h2.trans h1
  frame := fun i s h' tk st _ k => ⟨k I List.mem_cons_self _ st.1, k S (List.mem_cons_of_mem _ List.mem_cons_self) _ st.2⟩
  item := fun i s Q E' hi st hQ => by
    have hv : vs[i]? = some (vs[i]'(by omega)) := List.getElem?_eq_getElem _
    refine si_int_item st.1 st.2 hd hf (hn i _ hv s · · st.2) fun h' g k => ?_
    exact hQ _ _ hv ⟨g, (k S (Ne.symm hne)).trans st.2⟩ (moved_of (fun b ob hb e => (k b hb).trans e) (Nat.le_refl _))
  done := fun s Q E' st hQ => si_int_end calm st.1 st.2 hd hf (hz s · · st.2) fun h' k => hQ _ (moved_of k (Nat.le_refl _))
  self := fun i s Q E' st q => si_self st.1 q
theorem walks_drawn (calm : A.handled = none) {I S p : Addr} (hne : I ≠ S) (hnp : I ≠ p) {o op : Obj} {es : Array (Int × Value)} {ep np : Nat} {t : SetTable} (hd : o.data = .set es ep t) (hf : t.fits es.size = true) (js : List Nat) (hl : js.length = es.size) (hj : ∀ j ∈ js, j < es.size)
    (hq : op.data = .seq (js.map fun (j : Nat) => rawInt j).toArray np) :
    WalksS prog w A I [I, S, p] [I] (fun a b => b = a) es.size (fun i v => ∃ j, js[i]? = some j ∧ ∃ e, es[j]? = some e ∧ v = e.2) (fun i s => s.heap.get? I = some (SiObj (.ref p) i S es.size ep) ∧ s.heap.get? S = some o ∧ s.heap.get? p = some op) where
  sub := fun b hb => by rw [List.mem_singleton.mp hb]; exact List.mem_cons_self
  grefl := fun _ => rfl
  gtrans := fun _ _ _ h1 h2 => h2.trans h1
  frame := fun i s h' tk st _ k => ⟨k I List.mem_cons_self _ st.1, k S (List.mem_cons_of_mem _ List.mem_cons_self) _ st.2.1, k p (List.mem_cons_of_mem _ (List.mem_cons_of_mem _ List.mem_cons_self)) _ st.2.2⟩
  item := fun i s Q E' hi st hQ => by
    have hv : js[i]? = some (js[i]'(by omega)) := List.getElem?_eq_getElem _
    have hlt : js[i]'(by omega) < es.size := hj _ (List.getElem_mem _)
    have he : es[js[i]'(by omega)]? = some (es[js[i]'(by omega)]'hlt) := Array.getElem?_eq_getElem _
    have hpl : (js.map fun (j : Nat) => rawInt j).toArray[i]? = some (.int ((js[i]'(by omega) : Nat) : Int) 0) := by
      rw [List.getElem?_toArray, List.getElem?_map, hv]
      rfl
    refine si_ref_item st.1 st.2.1 hd hf st.2.2 hq hpl he fun h' g k => ?_
    exact hQ _ _ ⟨_, hv, _, he, rfl⟩ ⟨g, (k S (Ne.symm hne)).trans st.2.1, (k p (Ne.symm hnp)).trans st.2.2⟩ (moved_of (fun b ob hb e => (k b hb).trans e) (Nat.le_refl _))
  done := fun s Q E' st hQ => si_ref_end calm st.1 st.2.1 hd hf st.2.2 hq (by rw [List.getElem?_toArray, List.getElem?_map, List.getElem?_eq_none (by omega)]; rfl) fun h' k => hQ _ (moved_of k (Nat.le_refl _))
  self := fun i s Q E' st q => si_self st.1 q
theorem extend_by {I T : Addr} {fp : List Addr} {n : Nat} {P : Nat → Value → Prop} {St : Nat → Shared → Prop} {R : Result → Shared → Prop} (W : WalksS prog w A.in1 I fp [I] (fun a b => b = a) n P St) (hn : n ≤ sizeLine) (hT : T ∉ fp) {c0 : Nat} (res : Value) (st : St 0 s)
    (hL : s.heap.get? T = some { cls := .type "list", data := .seq #[] c0 })
    (h : ∀ s' acc c', Moved (T :: [I]) (fun a b => b = a) s s' → s'.heap.get? T = some { cls := .type "list", dict := none, data := .seq acc c', slots := #[] } → ItemsOf P acc n → R (.ok (.ret res)) s') :
    codeAny (model prog w) A (.builtin "list.extend.loop" ⟨[.ref T, .ref I, res], []⟩) R s :=
  codeAny_extend_loopS W hn T hT res n 0 _ #[] c0 rfl (Nat.zero_le _) st hL (ItemsOf.nil P) h
end
end STab
namespace STab
open PySem PyProof.Rows
section
variable {prog : Program} {w : World} {A : Around} {E : Value → Shared → Prop} {s : Shared}
theorem ints_of : ∀ {l es : List (Int × Value)}, ElemsOf (intKind prog w) es → (∀ e ∈ l, e ∈ es) → IntsAre (l.map (·.2)) (l.map ikey)
  | [], _, _, _ => .nil
  | e :: l, es, h, sub => by
    obtain ⟨⟨k, h1, _⟩, _⟩ := h e (sub e List.mem_cons_self)
    obtain ⟨tk, e2⟩ := Value.isInt_shape (k := k) (v := e.2) h1
    have q : ikey e = k := by unfold ikey; rw [e2]
    rw [List.map_cons, List.map_cons, e2, q]
    exact .cons k tk (ints_of h fun x hx => sub x (List.mem_cons_of_mem _ hx))
def slotAt (t : SetTable) : Nat → Nat
  | 0 => 0
  | k + 1 => t.place.getD k 0 + 1
theorem slotAt_below {t : SetTable} {led : Bool} (T : Tb t led) {i : Nat} (h : i ≤ t.place.size) : SetTable.below t.place (slotAt t i) = i := by
  cases i with
  | zero => exact below_zero T.srt
  | succ k =>
    have hk : k < t.place.size := h
    have e : t.place.getD k 0 = t.place[k] := by simp [Array.getD, hk]
    show SetTable.below t.place (t.place.getD k 0 + 1) = k + 1
    rw [e]
    exact below_next T.srt hk
theorem iter_set {S : Addr} {ks : List Int} {Q : Value → Shared → Prop} (hS : SetI prog w s.heap S (ledIn w) ks)
    (h : ∀ (I : Addr) (fp : List Addr) (St : Nat → Shared → Prop) (P : Nat → Value → Prop) (vs : List Value) (ls : List Int) (h' : Heap) (d' : Drawn), (∀ A' : Around, A'.handled = none → WalksS prog w A' I fp [I] (fun a b => b = a) vs.length P St) →
      (∀ (i : Nat) (v : Value), P i v → vs[i]? = some v) → IntsAre vs ls → ls.Perm ks → s.heap.objs.size ≤ I → (∀ b ∈ fp, b = S ∨ s.heap.objs.size ≤ b) → St 0 { s with heap := h', drawn := d' } → (∀ b o, s.heap.get? b = some o → h'.get? b = some o) → Q (.ref I) { s with heap := h', drawn := d' }) :
    wpAny (model prog w) A (pyIter (.ref S)) Q E s := by
  have ty := hS.typeIs
  obtain ⟨o, es, ep, t, ho, hx, hd, hel, hb, hf, T, pm⟩ := hS
  have lS := Heap.lt_size ho
  have psz : t.place.size = es.size := by
    simp only [SetTable.fits, Bool.and_eq_true, beq_iff_eq] at hf
    exact hf.1
  refine wpAny_pyIter_slot ty PySem.F.slot_set_iter (wpAny_call_entry PySem.F.slot_set_iter ty entry_s_iter ?_ (PySem.F.args_set_iter_1 _))
  unfold Builtin.«frozenset.__iter__»
  refine wpAny_bind (wpAny_of_eq (a := S) rfl ?_)
  unfold Builtin.Frozenset.sizeOf
  refine wpAny_bind (wpAny_bind (wpAny_setEntries_of ho hd hf (wpAny_pure ?_)))
  refine wpAny_bind (setDrawn_ok ho hd hf ?_)
  -- behind the first field: the record is laid
  have lay : ∀ (s1 : Shared) (first : Value) (Q1 : Value → Shared → Prop), s1.heap.get? S = some o → Q1 (.ref s1.heap.objs.size) { s1 with heap := s1.heap.push (SiObj first 0 S es.size ep) } →
      wpAny (model prog w) A.in1 (setEpoch S >>= fun e => newFields "set_iterator" [first, rawInt 0, .ref S, rawInt es.size, rawInt e] >>= fun r => ret r)
        (fun fin s' => ∃ r, fin = .done (.ret r) ∧ Q1 r s') (fun e s' => E e s') s1 := fun s1 first Q1 h1 q => by
    refine wpAny_bind (wpAny_setEpoch_of h1 hd hf (wpAny_bind ?_))
    exact wpAny_newObj_type (wpAny_pure ⟨_, rfl, q⟩)
  have cases_b : w.params.followText "set-order" = true ∨ w.params.followText "set-order" = false := by
    cases w.params.followText "set-order"
    · exact .inr rfl
    · exact .inl rfl
  have slots : ∀ (l : List (Int × Value)) (sl : Nat → Nat), l.Perm es.toList → sl 0 = 0 →
      (∀ (i : Nat) (e : Int × Value), l[i]? = some e → ∀ (A' : Around) (s : Shared) (Q' : Option (Value × Nat) → Shared → Prop) (E' : Value → Shared → Prop), s.heap.get? S = some o → Q' (some (e.2, sl (i + 1))) s → wpAny (model prog w) A' (setNext S (sl i) i ep) Q' E' s) →
      (∀ (A' : Around) (s : Shared) (Q' : Option (Value × Nat) → Shared → Prop) (E' : Value → Shared → Prop), s.heap.get? S = some o → Q' none s → wpAny (model prog w) A' (setNext S (sl es.size) es.size ep) Q' E' s) →
      Q (.ref s.heap.objs.size) { s with heap := s.heap.push (SiObj (rawInt 0) 0 S es.size ep) } := by
    intro l sl pl z0 hn hz
    have ll : (l.map (·.2)).length = es.size := by rw [List.length_map, pl.length_eq, Array.length_toList]
    have hn' : ∀ (A' : Around) (i : Nat) (v : Value), (l.map (·.2))[i]? = some v → ∀ (s : Shared) (Q' : Option (Value × Nat) → Shared → Prop) (E' : Value → Shared → Prop), s.heap.get? S = some o → Q' (some (v, sl (i + 1))) s → wpAny (model prog w) A'.in1 (setNext S (sl i) i ep) Q' E' s := by
      intro A' i v hv s0 Q' E' g q
      rw [List.getElem?_map] at hv
      cases q1 : l[i]? with
      | none => rw [q1] at hv; cases hv
      | some e =>
        rw [q1] at hv
        have hv : e.2 = v := Option.some.inj hv
        subst hv
        exact hn i e q1 _ s0 Q' E' g q
    have W : ∀ A' : Around, A'.handled = none → WalksS prog w A' s.heap.objs.size [s.heap.objs.size, S] [s.heap.objs.size] (fun a b => b = a) (l.map (·.2)).length (fun i v => (l.map (·.2))[i]? = some v) (fun i s1 => s1.heap.get? s.heap.objs.size = some (SiObj (rawInt (sl i)) i S es.size ep) ∧ s1.heap.get? S = some o) := fun A' calm => by
      rw [ll]
      exact walks_slot calm (Nat.ne_of_gt lS) hd hf (l.map (·.2)) ll sl (hn' A') (fun s0 Q' E' g q => hz _ s0 Q' E' g q)
    refine h s.heap.objs.size [s.heap.objs.size, S] _ _ (l.map (·.2)) (l.map ikey) _ s.drawn W (fun i v hv => hv) (ints_of hel fun e he => pl.mem_iff.mp he) ((pl.map ikey).trans pm) (Nat.le_refl _) (fun b hb => ?_) ⟨?_, Heap.get?_push_of_some _ ho⟩ fun b ob e => Heap.get?_push_of_some _ e
    · rcases List.mem_cons.mp hb with z | z
      · exact .inr (Nat.le_of_eq z.symm)
      · exact .inl (List.mem_singleton.mp z)
    · rw [z0]
      exact Heap.get?_push_size _ rfl
  cases hdr : (!(w.params.followText "set-order") && (!t.plain && decide (es.size > 1))) with
  | true =>
    simp only [if_true]
    refine wpAny_bind (draw_perm es.size (List.range es.size) s (by simp) fun js d pj => ?_)
    have hj : ∀ j ∈ js, j < es.size := fun j m => List.mem_range.mp (pj.mem_iff.mp m)
    have jl : js.length = es.size := by rw [pj.length_eq, List.length_range]
    refine wpAny_bind (wpAny_newObj_type ?_ (show (js.map fun (i : Nat) => rawInt i).toArray.size ≤ sizeLine by rw [List.size_toArray, List.length_map, jl]; exact fits_of_scanBound hb))
    have g1 : (s.heap.push { cls := .type "tuple", data := .seq (js.map fun (i : Nat) => rawInt i).toArray }).get? S = some o := Heap.get?_push_of_some _ ho
    have sz := Heap.size_push s.heap { cls := .type "tuple", data := .seq (js.map fun (i : Nat) => rawInt i).toArray }
    refine lay _ _ _ g1 ⟨"set_iterator", _, ⟨_, Heap.get?_push_size _ rfl, rfl⟩, slot_si_next.lookup, ?_⟩
    let l : List (Int × Value) := js.map fun j => es.getD j (0, .none)
    have lg : ∀ j, j < es.size → es[j]? = some (es.getD j (0, .none)) := fun j hj => by simp [Array.getD, hj]
    have pl : l.Perm es.toList := by
      refine (pj.map fun j => es.getD j (0, .none)).trans (List.Perm.of_eq ?_)
      refine List.ext_getElem (by simp) fun i h1 h2 => ?_
      have hi : i < es.size := by simpa using h2
      simp [Array.getD, hi]
    have ll : (l.map (·.2)).length = es.size := by simp [l, jl]
    have W : ∀ A' : Around, A'.handled = none → WalksS prog w A' (s.heap.push { cls := .type "tuple", data := .seq (js.map fun (i : Nat) => rawInt i).toArray }).objs.size [(s.heap.push { cls := .type "tuple", data := .seq (js.map fun (i : Nat) => rawInt i).toArray }).objs.size, S, s.heap.objs.size]
        [(s.heap.push { cls := .type "tuple", data := .seq (js.map fun (i : Nat) => rawInt i).toArray }).objs.size] (fun a b => b = a) (l.map (·.2)).length (fun i v => ∃ j, js[i]? = some j ∧ ∃ e, es[j]? = some e ∧ v = e.2) _ := fun A' calm => by
      rw [ll]
      exact walks_drawn calm (by rw [sz]; exact Nat.ne_of_gt (Nat.lt_succ_of_lt lS)) (by rw [sz]; exact Nat.ne_of_gt (Nat.lt_succ_self _)) hd hf js jl hj (op := { cls := .type "tuple", data := .seq (js.map fun (i : Nat) => rawInt i).toArray }) rfl
    refine h _ _ _ _ (l.map (·.2)) (l.map ikey) _ d W (fun i v hv => ?_) (ints_of hel fun e he => pl.mem_iff.mp he) ((pl.map ikey).trans pm) (by rw [sz]; exact Nat.le_succ _) (fun b hb => ?_)
      ⟨Heap.get?_push_size _ rfl, Heap.get?_push_of_some _ g1, Heap.get?_push_of_some _ (Heap.get?_push_size _ rfl)⟩ fun b ob e => Heap.get?_push_of_some _ (Heap.get?_push_of_some _ e)
    · obtain ⟨j, q1, e, q2, rfl⟩ := hv
      have jlt := hj j (List.mem_of_getElem? q1)
      rw [lg j jlt] at q2
      simp only [l, List.getElem?_map, q1, Option.map_some]
      rw [Option.some.inj q2]
    · rcases List.mem_cons.mp hb with z | z
      · refine .inr ?_
        rw [z, sz]
        exact Nat.le_succ _
      · rcases List.mem_cons.mp z with z | z
        · exact .inl z
        · exact .inr (Nat.le_of_eq (List.mem_singleton.mp z).symm)
  | false =>
    simp only [Bool.false_eq_true, if_false]
    refine wpAny_bind (wpAny_pure (lay s _ _ ho ⟨"set_iterator", _, ⟨_, Heap.get?_push_size _ rfl, rfl⟩, slot_si_next.lookup, ?_⟩))
    rcases cases_b with bt | bt
    · refine slots (pickOrder (w.params.setOrder S ep) es).toList (fun _ => 0) (pick_perm _ es) rfl (fun i e he A' s0 Q' E' g q => ?_) (fun A' s0 Q' E' g q => ?_)
      · refine next_text 0 i g hd hf bt ?_
        rw [← Array.getElem?_toList, he]
        exact q
      · refine next_text 0 es.size g hd hf bt ?_
        have e1 : (pickOrder (w.params.setOrder S ep) es)[es.size]? = none := by
          rw [← Array.getElem?_toList]
          refine List.getElem?_eq_none ?_
          rw [(pick_perm _ es).length_eq, Array.length_toList]
          exact Nat.le_refl _
        rw [e1]
        exact q
    · have hl : t.led = true := by rw [T.ld]; show (!(w.params.followText "set-order")) = true; rw [bt]; rfl
      have hp : (!t.plain && decide (es.size > 1)) = false := by
        rw [bt] at hdr
        simpa using hdr
      refine slots es.toList (slotAt t) (List.Perm.refl _) rfl (fun i e he A' s0 Q' E' g q => ?_) (fun A' s0 Q' E' g q => ?_)
      · have hi : i < es.size := by
          have := (List.getElem?_eq_some_iff.mp he).1
          simpa using this
        refine next_place (slotAt t i) i g hd hf bt hl hp ?_
        rw [slotAt_below T (by omega), ← Array.getElem?_toList, he]
        have e2 : t.place[i]? = some (t.place.getD i 0) := by
          have : i < t.place.size := by omega
          simp [Array.getD, this]
        rw [e2]
        exact q
      · refine next_place (slotAt t es.size) es.size g hd hf bt hl hp ?_
        rw [slotAt_below T (by omega)]
        have e1 : es[es.size]? = none := by simp
        rw [e1]
        exact q
end
end STab
namespace STab
open PySem PyProof.Rows
section
variable {prog : Program} {w : World} {A : Around} {E : Value → Shared → Prop} {s : Shared}
theorem hint_set {S : Addr} {Q : Bool → Shared → Prop} (ty : s.TypeIs (.ref S) "set") (h : Q false s) : wpAny (model prog w) A (Builtin.List.listLengthHint (.ref S)) Q E s := by
  unfold Builtin.List.listLengthHint
  refine wpAny_bind (wpAny_specialOf ty PySem.F.slot_set_len.lookup ?_)
  generalize hid : ("set.__len__" : String) = id0
  wp_delta
  rw [show splitId id0 = some ("set", "__len__") from by subst hid; decide +kernel]
  subst hid
  refine wpAny_bind (wpAny_isInstance (T := "set") (b := true) ty (by rw [isSubtype_type]; kernel_rfl) ?_)
  show wpAny _ A (typeOf (Value.ref S) >>= _) _ _ _
  exact wpAny_bind (wpAny_typeOf ty (wpAny_pure h))
theorem items_list {vs : List Value} {P : Nat → Value → Prop} {acc : Array Value} (hP : ∀ (i : Nat) (v : Value), P i v → vs[i]? = some v) (h : ItemsOf P acc vs.length) : acc.toList = vs := by
  refine List.ext_getElem (by rw [Array.length_toList]; exact h.1) fun i h1 h2 => ?_
  have hi : i < acc.size := by simpa using h1
  have q := hP i _ (h.2 i (acc[i]'hi) (Array.getElem?_eq_getElem hi))
  have e := (List.getElem?_eq_some_iff.mp q).2
  simpa using e.symm
theorem extend_set (calm : A.handled = none) {R : Result → Shared → Prop} {S T : Addr} {ks : List Int} {c0 : Nat} (res : Value) (hS : SetI prog w s.heap S (ledIn w) ks) (small : ks.length ≤ 1000) (hT : s.heap.get? T = some { cls := .type "list", data := .seq #[] c0 })
    (hR : ∀ (s' : Shared) (acc : Array Value) (c' : Nat) (ls : List Int), (∀ b o, b ≠ T → s.heap.get? b = some o → s'.heap.get? b = some o) → s'.gens = s.gens → s'.os = s.os → s'.heap.get? T = some { cls := .type "list", dict := none, data := .seq acc c', slots := #[] } →
      IntsAre acc.toList ls → ls.Perm ks → R (.ok (.ret res)) s') :
    wpAny (model prog w) A.in1 (Builtin.List.listExtendWith (.ref T) (.ref S) res)
      (fun fin s' => match fin with | .done f => R (.ok f) s' | .again c' => c'.quiet = true ∧ codeAny (model prog w) A c' R s') (fun e s' => R (.error e) s') s := by
  have ty := hS.typeIs
  have nST : S ≠ T := by
    rintro rfl
    obtain ⟨o, _, _, _, ho, hx, _⟩ := hS
    rw [hT] at ho
    cases ho
    exact absurd (show Value.type "list" = Value.type "set" from hx.1) (by decide)
  have ltT := Heap.lt_size hT
  unfold Builtin.List.listExtendWith
  refine wpAny_bind (wpAny_typeOf ty ?_)
  have h1 : Builtin.List.listSameRef (.ref T) (.ref S) = false := by simp [Builtin.List.listSameRef, Ne.symm nST]
  have h2 : (Value.type "set" == Value.type "list") = false := by decide
  have h3 : (Value.type "set" == Value.type "tuple") = false := by decide
  simp only [h1, h2, h3, Bool.or_false, Bool.false_eq_true, if_false]
  refine wpAny_bind (iter_set hS fun I fp St P vs ls h' d' W hP hi pm hI hfp st k => ?_)
  have ty' : Shared.TypeIs { s with heap := h', drawn := d' } (.ref S) "set" := by
    obtain ⟨o, ho, hc⟩ := ty
    exact ⟨o, k _ _ ho, hc⟩
  refine wpAny_bind (wpAny_holding (hint_set ty' ?_))
  have nTf : T ∉ fp := fun z => by
    rcases hfp T z with e | e
    · exact nST e.symm
    · exact absurd ltT (Nat.not_lt.mpr e)
  have nTI : T ≠ I := fun e => absurd ltT (Nat.not_lt.mpr (by rw [e]; exact hI))
  have calm1 : A.in1.handled = none := calm
  have hlen : vs.length ≤ sizeLine := by
    have e : vs.length = ks.length := by rw [hi.length, pm.length_eq]
    rw [e]
    exact Nat.le_trans small (by decide)
  have gT : h'.get? T = some { cls := .type "list", data := .seq #[] c0 } := k _ _ hT
  have res1 : (false || [("set" : String), "frozenset", "dict", "dict_keys", "dict_values", "dict_items"].any (Value.type "set" == .type ·)) = true := by decide
  show wpAny _ _ (if (false || [("set" : String), "frozenset", "dict", "dict_keys", "dict_values", "dict_items"].any (Value.type "set" == .type ·)) = true then _ else _) _ _ _
  rw [if_pos res1]
  refine wpAny_bind (wpAny_rule (wpAny_bind ?_))
  show wpAny _ _ (updateSeq T (·.push .none) >>= fun _ => updateSeq T (·.pop)) _ _ _
  refine wpAny_bind (wpAny_updateSeq gT rfl ?_)
  have g2 := Heap.get?_update_self (Obj.mapSeq (·.push Value.none)) gT rfl
  refine wpAny_updateSeq (hz := by seq_fits) g2 rfl ?_
  have g3 := Heap.get?_update_self (Obj.mapSeq (·.pop)) g2 rfl
  have oth : ∀ b ob, b ≠ T → h'.get? b = some ob → ((h'.update T (Obj.mapSeq (·.push Value.none))).update T (Obj.mapSeq (·.pop))).get? b = some ob := fun b ob hb e =>
    (Heap.get?_update_other _ _ (Ne.symm hb)).trans ((Heap.get?_update_other _ _ (Ne.symm hb)).trans e)
  refine wpAny_pure ⟨plainId_quiet PySem.F.plain_extend_loop _, ?_⟩
  refine extend_by (W A.in1 calm1) hlen nTf res ((W A.in1 calm1).frame 0 { s with heap := h', drawn := d' } _ _ st (Nat.le_refl _) fun b hb ob e => oth b ob (fun z => nTf (by rw [← z]; exact hb)) e) g3 fun s' acc c' mv hL items => ?_
  have ea := items_list hP items
  refine hR s' acc c' ls (fun b ob hb e => ?_) mv.gens mv.os hL (by rw [ea]; exact hi) pm
  have lb := Heap.lt_size e
  refine mv.heap b ob (fun z => ?_) (oth b ob hb (k b ob e))
  rcases List.mem_cons.mp z with z | z
  · exact hb z
  · rw [List.mem_singleton.mp z] at lb
    exact absurd lb (Nat.not_lt.mpr hI)
theorem collect_set (calm : A.handled = none) {S : Addr} {ks : List Int} {Q : List Value → Shared → Prop} (hS : SetI prog w s.heap S (ledIn w) ks) (small : ks.length ≤ 1000)
    (h : ∀ (s' : Shared) (vs : List Value) (ls : List Int), (∀ b o, s.heap.get? b = some o → s'.heap.get? b = some o) → s'.gens = s.gens → s'.os = s.os → IntsAre vs ls → ls.Perm ks → Q vs s') : wpAny (model prog w) A (collect (.ref S)) Q E s := by
  have oS : ∃ o, s.heap.get? S = some o := by
    obtain ⟨o, _, _, _, ho, _⟩ := hS
    exact ⟨o, ho⟩
  unfold collect
  refine wpAny_bind (wpAny_runValue (codeAny_builtin PySem.F.entry_proto_collect ?_))
  rw [Around.under_plainId PySem.F.plain_proto_collect _]
  show wpAny _ A.in1 (newList [] >>= fun l => again (.builtin "list.__iadd__" ⟨[l, .ref S], []⟩)) _ _ s
  refine wpAny_bind (wpAny_newObj_type (wpAny_pure ⟨plainId_quiet PySem.F.plain_list_iadd _, codeAny_builtin PySem.F.entry_list_iadd ?_⟩))
  rw [Around.under_plainId PySem.F.plain_list_iadd _]
  show wpAny _ A.in1 (Builtin.List.listExtendWith (.ref s.heap.objs.size) (.ref S) (.ref s.heap.objs.size)) _ _ _
  refine extend_set (A := A) (R := fun r s' => match r with | .ok (.ret v) => wpAny (model prog w) A (match v with | .ref a => (do let o ← load a; match o.data with | .seq xs _ => pure xs.toList | _ => unsupported "internal:collect") | _ => unsupported "internal:collect") Q E s' | .ok _ => False | .error e => E e s') (s := { s with heap := s.heap.push { cls := .type "list", dict := none, data := .seq ([] : List Value).toArray } }) (c0 := 0) calm (.ref s.heap.objs.size) (hS.keep fun o e => Heap.get?_push_of_some _ e) small (Heap.get?_push_size s.heap rfl) fun s' acc c' ls k eg eo hL hi pm => ?_
  show wpAny _ A (load s.heap.objs.size >>= _) _ _ s'
  refine wpAny_bind (wpAny_load hL (wpAny_pure (h s' acc.toList ls (fun b o e => k b o (Nat.ne_of_lt (Heap.lt_size e)) (Heap.get?_push_of_some _ e)) eg eo hi pm)))
theorem sorted_by {x : Value} {ns : List Int} {Q : Value → Shared → Prop} (small : ns.length < 64)
    (hc : ∀ (Q' : List Value → Shared → Prop) (E' : Value → Shared → Prop), (∀ (s' : Shared) (vs : List Value) (ls : List Int), (∀ b o, s.heap.get? b = some o → s'.heap.get? b = some o) → s'.gens = s.gens → s'.os = s.os → IntsAre vs ls → ls.Perm ns → Q' vs s') → wpAny (model prog w) A.in1 (collect x) Q' E' s)
    (h : ∀ (s1 : Shared) (h2 : Heap) (out : List Value) (n : Nat) (ls : List Int), (∀ b o, s.heap.get? b = some o → s1.heap.get? b = some o) → s1.gens = s.gens → s1.os = s.os → (∀ b o, s1.heap.get? b = some o → h2.get? b = some o) →
      h2.get? s1.heap.objs.size = some { cls := .type "list", data := .seq out.toArray n } → IntsAre out ls → ls.Perm ns → ls.Pairwise (· ≤ ·) → Q (.ref s1.heap.objs.size) { s1 with heap := h2 }) :
    wpAny (model prog w) A (call (.builtin "sorted") [x]) Q E s := by
  refine Calls.call_function_entry kind_sorted plain_sorted entry_sorted (args_sorted1 _) ?_
  unfold Builtin.«sorted»
  refine wpAny_bind (m := checkCount "sorted" 1 1 _) (wpAny_pure ?_)
  refine wpAny_bind (hc _ _ fun s1 vs ls k1 g1 o1 hi pm => ?_)
  have hl : vs.length = ns.length := by rw [hi.length, pm.length_eq]
  refine wpAny_bind (wpAny_newList ?_)
  have gL : (s1.heap.push (seqObj "list" vs.toArray 0)).get? s1.heap.objs.size = some (seqObj "list" vs.toArray 0) := Heap.get?_push_size _ rfl
  refine wpAny_bind (wpAny_holding (wpAny_call_entry slot_list_sort ⟨_, gL, rfl⟩ entry_list_sort (list_sort_tree gL hi (by omega) fun out ls' a1 a2 a3 => ⟨_, rfl, ?_⟩) (args_list_sort _)))
  refine wpAny_pure ⟨_, rfl, ?_⟩
  obtain ⟨e, ge⟩ := sortedHeap_at (out := out) gL
  have ge' : (sortedHeap (s1.heap.push (seqObj "list" vs.toArray 0)) s1.heap.objs.size vs out).get? s1.heap.objs.size = some { cls := .type "list", data := .seq out.toList.toArray e } := by
    rw [Array.toArray_toList]
    exact ge
  refine h s1 _ out.toList e ls' k1 g1 o1 (fun b o q1 => ?_) ge' a1 (a2.trans pm) a3
  have lb := Heap.lt_size q1
  rw [sortedHeap_old (Nat.ne_of_lt lb) (by rw [Heap.size_push]; exact Nat.lt_succ_of_lt lb)]
  exact Heap.get?_push_of_some _ q1
end
end STab
namespace L2
open PySem PySem.Spec PyProof.Rows

def setO (P : Program) (w : World) (q : Addr) (ks : List Int) : HO := .ext fun h => STab.SetI P w h q (STab.ledIn w) ks
section
variable {X : Cx} {pins : List (Addr × Obj)} {σ : St} {H : Hp} {s : Shared}
theorem Inv.keptAll {s1 : Shared} (I : Inv X pins σ H s) (k : ∀ b o, s.heap.get? b = some o → s1.heap.get? b = some o) (eg : s1.gens = s.gens) (eo : s1.os = s.os) : Inv X pins σ H s1 :=
  I.call' (ch := []) eo (Un.kept k) (I.hok.kept k) (by rw [eg]; exact I.bare) (fun b z => absurd z (by simp))
theorem call_set_l (hc : X.calm = true) : CallR X (.type "set") (fun xs H Q => ∃ (p : Addr) (ns : List Int), xs = [.ref p] ∧ SqL X.K H p (ns.map V.int) ∧ ns.length ≤ 4000 ∧ ∀ (q : Addr), H q = none → Q (.ref q) (upd H q (setO X.prog X.w q (ns.foldl STab.addI [])))) := by
  intro pins s σ H xs us Q I r h
  obtain ⟨p, ns, rfl, hq, small, q⟩ := h
  obtain ⟨u, rfl, ru⟩ := vals1 r
  cases ru
  obtain ⟨its, rv, pl, hz⟩ := I.list hq
  have hi : IntsAre its.toArray.toList ns := by simpa using intsAre_of rv
  have hl : its.toArray.size = ns.length := by rw [List.size_toArray, ← rv.length, List.length_map]
  refine STab.set_of_list (I.ok.hd hc) pl.isList hi (by rw [hl]; show ns.length + 1 < 4096; omega) fun h' tk x k => ?_
  have hf : H s.heap.objs.size = none := I.hok.fresh (Nat.le_refl _)
  refine ⟨.ref s.heap.objs.size, _, I.laid (t' := tk) k (Nat.le_refl _) ?_, rfl, q _ hf⟩
  obtain ⟨o, es, ep, t, ho, r⟩ := id x
  exact ⟨x, ⟨o, ho⟩, fun h1 h2 y kk => y.keep kk⟩
theorem call_sorted_i (hc : X.calm = true) : CallR X (.builtin "sorted") (fun xs H Q => ∃ (p : Addr) (ns : List Int), xs = [.ref p] ∧ ns.length < 64 ∧ (SqL X.K H p (ns.map V.int) ∨ SqT X.K H p (ns.map V.int) ∨ H p = some (setO X.prog X.w p ns)) ∧
    ∀ (l : Addr) (ls : List Int), H l = none → ls.Perm ns → ls.Pairwise (· ≤ ·) → Q (.ref l) (upd H l (.lst (ls.map V.int)))) := by
  intro pins s σ H xs us Q I r h
  obtain ⟨p, ns, rfl, small, hq, q⟩ := h
  obtain ⟨u, rfl, ru⟩ := vals1 r
  cases ru
  have calm : X.A.in1.handled = none := I.ok.hd hc
  refine STab.sorted_by (ns := ns) small (fun Q' E' k => ?_) fun s1 h2 out n ls k1 g1 o1 k2 gL hi pm pw => ?_
  · rcases hq with hq | hq | hq
    · obtain ⟨its, rv, pl, hz⟩ := I.list hq
      obtain ⟨o, n, ho, hcl, _, hd⟩ := pl
      exact wpAny_collect_seq p (.inl rfl) ho hcl hd (fun h' kk => k _ _ ns kk rfl rfl (by simpa using intsAre_of rv) (List.Perm.refl _)) (by rw [List.size_toArray, ← rv.length]; exact hz)
    · obtain ⟨its, rv, pl, hz⟩ := I.tuple hq
      obtain ⟨o, ho, hcl, n, hd⟩ := pl
      exact wpAny_collect_seq p (.inr rfl) ho hcl hd (fun h' kk => k _ _ ns kk rfl rfl (by simpa using intsAre_of rv) (List.Perm.refl _)) (by rw [List.size_toArray, ← rv.length]; exact hz)
    · obtain ⟨x, _, _⟩ := I.hok p _ hq
      exact STab.collect_set calm x (by omega) fun s' vs ls kk eg eo hi pm => k s' vs ls kk eg eo hi pm
  · have I1 := I.keptAll k1 g1 o1
    have hf : H s1.heap.objs.size = none := I1.hok.fresh (Nat.le_refl _)
    refine ⟨.ref s1.heap.objs.size, _, I1.laid (t' := s1.toks) k2 (Nat.le_refl _) ?_, rfl, q _ ls hf pm pw⟩
    refine ⟨?_, out, n, vals_ints hi, gL⟩
    rw [List.length_map, pm.length_eq]
    exact Nat.le_trans (Nat.le_of_lt small) (by decide)
end
end L2
namespace L2
open PySem PySem.Spec PyProof.Rows

def rngL (lo hi : Int) : List Int := (List.range (hi - lo).toNat).map fun (i : Nat) => lo + (i : Int)
section
variable {X : Cx}
theorem call_range1 : CallR X (.type "range") (fun xs H Q => ∃ j : Int, xs = [.int j] ∧ ∀ q, H q = none → Q (.ref q) (upd H q (.rng 0 j))) := by
  intro pins s σ H xs us Q I r h
  obtain ⟨j, rfl, q⟩ := h
  obtain ⟨u, rfl, t, rfl⟩ := vals1 r
  refine call_range_1 ⟨.ref s.heap.objs.size, _, I.laid (fun _ _ e => Heap.get?_push_of_some _ e) (Nat.le_refl _) ?_, rfl, q _ (I.hok.fresh (Nat.le_refl _))⟩
  exact ⟨_, _, _, Heap.get?_push_size _ rfl⟩
theorem rng_small {lo hi : Int} (h1 : -1000000 ≤ lo) (h2 : hi ≤ 1000000) (h3 : lo ≤ 1000000) (h4 : -1000000 ≤ hi) : Builtin.Range.small lo hi 1 = true ∧ Builtin.Range.rangeSize lo hi 1 = ((hi - lo).toNat : Nat) := by
  refine ⟨small_one (by omega) (by omega) (by omega) (by omega), ?_⟩
  rw [rangeSize_one]; split <;> omega
theorem ints_range {lo : Int} {acc : Array Value} {n : Nat} (items : ItemsOf (fun i v => ∃ t, v = Value.int (lo + (i : Int) * 1) t) acc n) : IntsAre acc.toList ((List.range n).map fun (i : Nat) => lo + (i : Int)) := by
  have go : ∀ (m : Nat) (xs : List Value), xs.length = m → (∀ (j : Nat) (v : Value), xs[j]? = some v → ∃ t, v = Value.int (lo + (j : Int) * 1) t) → IntsAre xs ((List.range m).map fun (i : Nat) => lo + (i : Int)) := by
    intro m
    induction m with
    | zero =>
      intro xs e _
      have : xs = [] := List.length_eq_zero_iff.mp e
      subst this
      exact .nil
    | succ m ih =>
      intro xs e g
      have hne : xs ≠ [] := fun z => by rw [z] at e; cases e
      have es : xs = xs.dropLast ++ [xs.getLast hne] := (List.dropLast_concat_getLast hne).symm
      have dl : xs.dropLast.length = m := by rw [List.length_dropLast, e]; rfl
      obtain ⟨t, et⟩ := g m (xs.getLast hne) (by rw [List.getLast_eq_getElem]; simp [e])
      have ih' := ih xs.dropLast dl fun j v hv => g j v (by
        rw [es, List.getElem?_append_left (by have := (List.getElem?_eq_some_iff.mp hv).1; exact this)]
        exact hv)
      rw [es, et, List.range_succ, List.map_append]
      have cat : ∀ {a b : List Value} {x y : List Int}, IntsAre a x → IntsAre b y → IntsAre (a ++ b) (x ++ y) := by
        intro a b x y p q
        induction p with
        | nil => exact q
        | cons n t _ ih2 => exact .cons n t ih2
      refine cat ih' ?_
      rw [Int.mul_one]
      exact .cons _ t .nil
  exact go n acc.toList (by rw [Array.length_toList]; exact items.1) fun j v hv => items.2 j v (by rw [← Array.getElem?_toList]; exact hv)
theorem call_list_rng (hc : X.calm = true) : CallR X (.type "list") (fun xs H Q => ∃ (p : Addr) (lo hi : Int), xs = [.ref p] ∧ H p = some (.rng lo hi) ∧ (-1000 ≤ lo ∧ lo ≤ 1000 ∧ -1000 ≤ hi ∧ hi ≤ 1000 ∧ hi - lo ≤ 1000) ∧ ∀ q, H q = none → Q (.ref q) (upd H q (.lst ((rngL lo hi).map V.int)))) := by
  intro pins s σ H xs us Q I r h
  obtain ⟨p, lo, hi, rfl, hp, ⟨b1, b2, b3, b4, b5⟩, q⟩ := h
  obtain ⟨u, rfl, rx⟩ := vals1 r
  cases rx
  obtain ⟨t, u, v, e⟩ := I.hok p _ hp
  have sm := rng_small (lo := lo) (hi := hi) (by omega) (by omega) (by omega) (by omega)
  refine call_list_range (I.ok.hd hc) (show IsRange s.heap p lo hi 1 t u v from e) sm.1 sm.2 (by omega) fun h' tk acc c k hL items => ?_
  have hl : ((rngL lo hi).map V.int).length ≤ sizeLine := by
    rw [List.length_map]; unfold rngL; rw [List.length_map, List.length_range]
    exact Nat.le_trans (show (hi - lo).toNat ≤ 1000 by omega) (by decide)
  exact ⟨.ref s.heap.objs.size, _, I.laid (t' := tk) k (Nat.le_refl _) (show ObjOk X.prog X.w _ _ _ (.lst _) from ⟨hl, acc.toList, c, vals_ints (ints_range items), by simpa using hL⟩), rfl, q _ (I.hok.fresh (Nat.le_refl _))⟩
theorem mt_count : MtM X "list.count" (fun x vs H Q => ∃ (l : Addr) (ns : List Int) (k : Int), x = .ref l ∧ vs = [.int k] ∧ SqL X.K H l (ns.map V.int) ∧ Q (.int (ns.count k : Nat)) H) := by
  intro pins s σ H x vs v us Q I rx rv h
  obtain ⟨l, ns, k, rfl, rfl, hq, q⟩ := h
  cases rx
  obtain ⟨u, rfl, t, rfl⟩ := rv.one
  obtain ⟨its, r, pl, hz⟩ := I.list hq
  exact count_list_ints pl.isList (intsAre_of r) ⟨.int (ns.count k : Nat), H, I.tok _, ⟨_, rfl⟩, q⟩
end
end L2
namespace L2
open PySem PySem.Spec PyProof.Rows

section
variable {X : Cx} {K : PySem.W.Frag}
theorem knot_seq (h : X.K = K) : OpR X (compareOp .NotIn) (rIn K true) := h ▸ op_notIn_seq
theorem kix_list (h : X.K = K) : IxR X (rIxL K) := h ▸ ix_list
theorem kop_eqT (h : X.K = K) (hu : X.A.units < cLine) : OpR X (compareOp .Eq) (rEqT K fun b => b) := h ▸ op_eqT hu
end
end L2
namespace HT
open PySem PySem.Spec PyProof.Rows
section
variable {prog : Program} {w : World} {A : Around} {E : Value → Shared → Prop} {s : Shared}
theorem getItem_tuple_whole {t sl : Addr} {items : Array Value} {vl vu : Value} {lo hi : Option Int} {Q : Value → Shared → Prop} (ht : IsTup s.heap t items) (hs : s.heap.IsSliceOf sl vl vu .none) (pl : IsPart vl lo) (pu : IsPart vu hi)
    (hw : sIx items.size 0 lo = 0 ∧ sIx items.size items.size hi = items.size) (h : Q (.ref t) s) : wpAny (model prog w) A (getItem (.ref t) (.ref sl)) Q E s := by
  obtain ⟨os, hos, hcs, hds⟩ := id hs
  have hTs : s.TypeIs (.ref sl) "slice" := ⟨os, hos, hcs⟩
  unfold getItem
  try with_reducible refine wpAny_holding ?_
  first | refine wpAny_bind (wpAny_pure ?_) | skip
  refine wpAny_bind (wpAny_sequenceKey ht.typeIs (by decide) ?_)
  refine wpAny_bind (wpAny_callSpecial?_slot (name := Str.ofString "__getitem__") ht.typeIs PyProof.Rows.slot_tuple_getitem
    (wpAny_call_entry PyProof.Rows.slot_tuple_getitem ht.typeIs entry_tuple_getitem ?_ (args_tuple_getitem _ _)))
  show wpAny _ _ (Builtin.Tuple.tupleItemsOf (.ref t) >>= _) _ _ s
  refine wpAny_bind (tupleItemsOf_ ht ?_)
  refine wpAny_bind (wpAny_typeOf hTs ?_)
  rw [if_pos (by decide)]
  refine wpAny_bind (sliceApplied_gen hs pl pu ?_)
  have hyes : (((sIx items.size 0 lo : Nat) : Int) == 0 && (1 : Int) == 1 && (sIx items.size items.size hi - sIx items.size 0 lo) == items.size) = true := by
    rw [hw.1, hw.2]
    simp
  show wpAny _ _ (if (((sIx items.size 0 lo : Nat) : Int) == 0 && (1 : Int) == 1 && (sIx items.size items.size hi - sIx items.size 0 lo) == items.size) = true then _ else _) _ _ s
  rw [if_pos hyes]
  refine wpAny_bind (m := Builtin.Tuple.tupleIsExact (.ref t)) ?_
  unfold Builtin.Tuple.tupleIsExact
  refine wpAny_bind (wpAny_typeOf ht.typeIs (wpAny_pure ?_))
  first
    | (rw [if_pos (by decide)]
       exact wpAny_bind (wpAny_rule (wpAny_pure ⟨_, rfl, wpAny_pure h⟩)))
    | (show wpAny _ _ (if (Value.type "tuple" == Value.type "tuple") = true then _ else _) _ _ s
       rw [if_pos (by decide)]
       refine wpAny_bind (wpAny_rule ?_)
       first
         | exact wpAny_pure ⟨_, rfl, wpAny_pure h⟩
         | exact wpAny_bind (wpAny_pure (wpAny_pure ⟨_, rfl, wpAny_pure h⟩))
         | exact wpAny_bind (wpAny_pure ⟨_, rfl, wpAny_pure h⟩))
end
end HT
namespace L2
open PySem PySem.Spec PyProof.Rows
section
variable {X : Cx}
def rSlS : V → Option Int → Option Int → Hp → VK → Prop := fun x lo hi H Q => ∃ a xs, x = .ref a ∧ H a = some (.tup xs) ∧ ∀ p H', Same H H' → H' p = some (.tup (cutV xs lo hi)) → Q (.ref p) H'
theorem sl_tupS : SlR X rSlS := by
  intro pins s σ H x v vl vu lo hi sl Q I rx hs pl pu h
  obtain ⟨a, xs, rfl, hx, q⟩ := h
  by_cases hw : HT.sIx xs.length 0 lo = 0 ∧ HT.sIx xs.length xs.length hi = xs.length
  · cases rx
    obtain ⟨its, r, ht, hz⟩ := I.tuple (SqT.of hx)
    have hlen : its.toArray.size = xs.length := by rw [List.size_toArray]; exact r.length.symm
    refine ⟨"tuple", _, PyProof.Rows.slot_tuple_getitem.lookup, ht.typeIs, ?_⟩
    refine HT.getItem_tuple_whole ht hs pl pu (by rw [hlen]; exact hw) ⟨.ref a, H, I, rfl, q a H (Same.refl _) ?_⟩
    have e : cutV xs lo hi = xs := by
      unfold cutV
      rw [hw.1, hw.2, List.drop_zero, Nat.sub_zero, List.take_length]
    rw [e]
    exact hx
  · exact sl_tup pins s σ H _ v vl vu lo hi sl Q I rx hs pl pu ⟨a, xs, rfl, SqT.of hx, hw, fun p p0 => q p _ (Same.new p0) upd_same⟩
theorem cut_front (xs : List V) (k : Nat) : cutV xs none (some (k : Int)) = xs.take k := by
  unfold cutV
  rw [HT.sIx_none, HT.sIx_nat, List.drop_zero, Nat.sub_zero]
  by_cases h : k ≤ xs.length
  · rw [Nat.min_eq_left h]
  · rw [Nat.min_eq_right (by omega), List.take_length, List.take_of_length_le (by omega)]
end
end L2
namespace L2
open PySem PySem.Spec PyProof.Rows
theorem comp_prd {α γ : Type} {K : PySem.W.Frag} {js : List Nat} {tc : TT} {te : TE} {σ : St} {H : Hp} {Fin : Addr → Hp → Prop} {a : Addr} (ws : List V) (cs : List α) (R : Hp → V → α → Prop) (p : α → Bool) (f : α → γ) (R2 : Hp → V → γ → Prop)
    (mono : ∀ H1 H2 v c, TupKeep H1 H2 → R H1 v c → R H2 v c) (mono2 : ∀ H1 H2 v c, TupKeep H1 H2 → R2 H1 v c → R2 H2 v c)
    (hS : SqL K H a ws) (pr : Paired (R H) ws cs)
    (ht : ∀ v c H', c ∈ cs → R H' v c → Same H H' → ∀ Q2 : Bool → Hp → Prop, (∀ H3, Same H' H3 → Q2 (p c) H3) → tc (blkSt js σ (some v)) H' Q2)
    (he : ∀ v c H', c ∈ cs → R H' v c → p c = true → Same H H' → ∀ Q2 : VK, (∀ y H4, Same H' H4 → R2 H4 y (f c) → Q2 y H4) → te (blkSt js σ (some v)) H' Q2)
    (hn : cs.length ≤ sizeLine)
    (hd : ∀ D us H', H D = none → Same H H' → H' D = some (.lst us) → Paired (R2 H') us ((cs.filter p).map f) → Fin D H') : CompBy js tc te σ (Itl K a) H Fin := by
  have key : ∀ {ws : List V} {cs : List α}, Paired (R H) ws cs → ∃ bs : List (V × α), bs.map (·.1) = ws ∧ bs.map (·.2) = cs ∧ ∀ b ∈ bs, R H b.1 b.2 := by
    intro ws cs pr
    induction pr with
    | nil => exact ⟨[], rfl, rfl, fun b hb => by cases hb⟩
    | cons r _ ih =>
      obtain ⟨bs, h1, h2, h3⟩ := ih
      refine ⟨(_, _) :: bs, by rw [List.map_cons, h1], by rw [List.map_cons, h2], fun b hb => ?_⟩
      rcases List.mem_cons.mp hb with rfl | hb
      · exact r
      · exact h3 b hb
  obtain ⟨bs, h1, h2, h3⟩ := key pr
  subst h1; subst h2
  refine comp_grow bs (·.1) (fun b => p b.2) (fun b => f b.2) R2 mono2 (it_list bs (·.1) hS) (fun b H' hb s Q2 h => ht b.1 b.2 H' (List.mem_map_of_mem hb) (mono _ _ _ _ s.tk (h3 b hb)) s Q2 h) (fun b H' hb hp s Q2 h => he b.1 b.2 H' (List.mem_map_of_mem hb) (mono _ _ _ _ s.tk (h3 b hb)) hp s Q2 h) (by simpa using hn) fun D us H' hD s hL pr2 => hd D us H' hD s hL ?_
  have e : ((bs.map (·.2)).filter p).map f = (bs.filter fun b => p b.2).map fun b => f b.2 := by
    rw [List.filter_map, List.map_map]
    rfl
  rw [e]
  exact pr2
end L2
namespace STab
open PySem PyProof.Rows
open AutoSeq1 (wpAny_loadPart')
section
variable {prog : Program} {w : World} {A : Around} {E : Value → Shared → Prop} {s : Shared}
theorem nextOf_tup_item {it t : Addr} {i : Nat} {items : Array Value} {x : Value} {Q : Value → Shared → Prop} (hit : s.heap.IsTupleIter it t i) (ht : s.heap.IsTuple t items) (hx : items[i]? = some x)
    (hQ : ∀ h', h'.IsTupleIter it t (i + 1) → Heap.SameBut it s.heap h' → Q x { s with heap := h' }) : wpAny (model prog w) A (Builtin.SmallTypes.nextOf (.ref it)) Q E s := by
  obtain ⟨o, ho, hc, hd⟩ := id hit
  obtain ⟨ol, hol, _, nl, hdl⟩ := ht
  unfold Builtin.SmallTypes.nextOf
  refine wpAny_bind (wpAny_callSpecial?_slot (name := Str.ofString "__next__") hit.typeIs F.slot_tuple_iterator_next (wpAny_call_entry F.slot_tuple_iterator_next hit.typeIs F.entry_tuple_iterator_next ?_ (F.args_tuple_iterator_next_1 _)))
  show wpAny _ _ (field (.ref it) 0 >>= _) _ _ s
  refine wpAny_bind (wpAny_field ho hd (x := .ref t) rfl ?_)
  show wpAny _ _ (if (Value.ref t == Value.none) = true then _ else _) _ _ s
  rw [if_neg (show ¬ ((Value.ref t == Value.none) = true) from Bool.false_ne_true)]
  show wpAny _ _ (field (.ref it) 1 >>= _) _ _ s
  refine wpAny_bind (wpAny_field ho hd (x := .int i 0) rfl ?_)
  show wpAny _ _ (seqItems? (.ref t) >>= _) _ _ s
  refine wpAny_bind (wpAny_seqItems hol hdl ?_)
  simp only [Int.toNat_natCast, hx]
  refine wpAny_bind (wpAny_setField ho hd (by simp) (wpAny_pure ⟨x, rfl, wpAny_pure (hQ _ ?_ (Heap.SameBut.update ..))⟩))
  exact ⟨_, Heap.get?_update_self _ ho (Obj.isFreed_of_fields (Obj.data_mapFields hd _)), (Obj.cls_mapFields ..).trans hc, by rw [Obj.data_mapFields hd]; simp [rawInt]⟩
theorem nextOf_tup_end {it t : Addr} {i : Nat} {items : Array Value} {Q : Value → Shared → Prop} (hh : A.handled = none) (hit : s.heap.IsTupleIter it t i) (ht : s.heap.IsTuple t items) (hx : items[i]? = none)
    (hE : ∀ h' e, Heap.ExtBut it s.heap h' → (∃ o, h'.get? e = some o ∧ o.cls = .type "StopIteration") → E (.ref e) { s with heap := h' }) : wpAny (model prog w) A (Builtin.SmallTypes.nextOf (.ref it)) Q E s := by
  obtain ⟨o, ho, hc, hd⟩ := id hit
  obtain ⟨ol, hol, _, nl, hdl⟩ := ht
  unfold Builtin.SmallTypes.nextOf
  refine wpAny_bind (wpAny_callSpecial?_slot (name := Str.ofString "__next__") hit.typeIs F.slot_tuple_iterator_next (wpAny_call_entry F.slot_tuple_iterator_next hit.typeIs F.entry_tuple_iterator_next ?_ (F.args_tuple_iterator_next_1 _)))
  show wpAny _ _ (field (.ref it) 0 >>= _) _ _ s
  refine wpAny_bind (wpAny_field ho hd (x := .ref t) rfl ?_)
  show wpAny _ _ (if (Value.ref t == Value.none) = true then _ else _) _ _ s
  rw [if_neg (show ¬ ((Value.ref t == Value.none) = true) from Bool.false_ne_true)]
  show wpAny _ _ (field (.ref it) 1 >>= _) _ _ s
  refine wpAny_bind (wpAny_field ho hd (x := .int i 0) rfl ?_)
  show wpAny _ _ (seqItems? (.ref t) >>= _) _ _ s
  refine wpAny_bind (wpAny_seqItems hol hdl ?_)
  simp only [Int.toNat_natCast, hx]
  refine wpAny_bind (wpAny_rule (wpAny_bind (wpAny_setField ho hd (by simp) ?_)))
  show wpAny _ _ (newExc (.type "StopIteration") [] >>= _) _ _ _
  refine wpAny_bind ?_
  simp only [newExc, newTuple]
  refine wpAny_bind (wpAny_newObj_type ?_ (by size_fits))
  refine wpAny_bind (m := firstArgMember _ _) (wpAny_of_eq (a := Value.none) (by first | rfl | (simp only [firstArgMember]; rfl)) ?_)
  refine wpAny_newObj_type ?_ (by size_fits)
  simp only [raiseNew]
  refine wpAny_bind (wpAny_handled ?_)
  first | rw [show A.in1.handled = none from hh] | rw [hh]
  refine wpAny_bind (wpAny_pure (wpAny_throw ?_))
  exact hE _ _ (((Heap.SameBut.update ..).extBut.push _).push _) ⟨_, Heap.get?_push_size _ rfl, rfl⟩
end
theorem draws_tup {prog : Program} {w : World} {A : Around} (hh : A.handled = none) (it l : Addr) (hne : l ≠ it) (items : Array Value) :
    Draws prog w A it [it, l] items.size (fun i v => items[i]? = some v) (fun i h => h.IsTupleIter it l i ∧ h.IsTuple l items) where
  live := fun _ _ st => let ⟨o, ho, _⟩ := st.1; ⟨o, ho⟩
  frame := fun _ _ _ st hk => ⟨st.1.at fun o e => hk it (by simp) o e, st.2.at fun o e => hk l (by simp) o e⟩
  item := fun i s Q E hi st hQ => by
    refine nextOf_tup_item st.1 st.2 (x := items[i]) (by simp [hi]) fun h' hit' hs' => ?_
    exact hQ _ h' s.toks (by simp [hi]) ⟨hit', st.2.extBut hs'.extBut hne⟩ hs'
  done := fun s Q E st hE => nextOf_tup_end hh st.1 st.2 (by simp) hE
theorem enum_newT (l : Addr) (items : Array Value) (n : Nat) (dct : Option Addr) (sl : Array (Option Value)) :
    Meets (Builtin.«enumerate.__new__» ⟨[.type "enumerate", .ref l], []⟩) (fun _ R s => s.heap.get? l = some { cls := .type "tuple", dict := dct, data := .seq items n, slots := sl } ∧
      R (.ok (.ret (.ref (s.heap.push { cls := .type "tuple_iterator", data := .fields #[.ref l, .int 0 0] }).objs.size)))
        { s with heap := (s.heap.push { cls := .type "tuple_iterator", data := .fields #[.ref l, .int 0 0] }).push { cls := .type "enumerate", data := .fields #[.none, .bool false, .ref s.heap.objs.size, rawInt 0, .none, .none] } }) :=
  .of_wp fun prog w A R s h => by
    obtain ⟨hp, g, d, tk, os⟩ := s; obtain ⟨hl, h⟩ := h
    have hsub := sub_enumerate
    have hL : Heap.IsTuple (Shared.heap ⟨hp, g, d, tk, os⟩) l items := ⟨_, hl, rfl, n, rfl⟩
    wp_walk using wpAny_loadPart' hl
    refine wpAny_stack_any fun st => wpAny_pure ?_
    split
    · rename_i c _ _ _ _ _
      cases (c == Value.type "enumerate")
      · wp_walk using wpAny_loadPart' hl, wpAny_pyIter_tuple hL
        exact ⟨_, rfl, h⟩
      · wp_walk using wpAny_loadPart' hl, wpAny_pyIter_tuple hL
        exact ⟨_, rfl, h⟩
    · wp_walk using wpAny_loadPart' hl, wpAny_pyIter_tuple hL
      exact ⟨_, rfl, h⟩
section
variable {prog : Program} {w : World} {A : Around} {E : Value → Shared → Prop} {s : Shared}
theorem call_enum_tup {l : Addr} {items : Array Value} {Q : Value → Shared → Prop} (hL : s.heap.IsTuple l items)
    (h : ∀ h', IsEnum h' (s.heap.objs.size + 1) s.heap.objs.size 0 .none → h'.IsTupleIter s.heap.objs.size l 0 → h'.objs.size = s.heap.objs.size + 2 →
      (∀ b o, s.heap.get? b = some o → h'.get? b = some o) → Q (.ref (s.heap.objs.size + 1)) { s with heap := h' }) :
    wpAny (model prog w) A (call (.type "enumerate") [.ref l]) Q E s := by
  obtain ⟨⟨c, dct, dt, sl⟩, hl, hc, n, hd⟩ := hL
  replace hc : c = .type "tuple" := hc
  replace hd : dt = .seq items n := hd
  subst hc hd
  refine callType_new F.called_enumerate (by decide) (F.typeCall_enumerate_1 _) (F.newCall_enumerate_1 _) (fun obj => F.args_object_init_2 obj _) F.entry_enumerate_new (enum_newT l items n dct sl) ⟨hl, ?_⟩
  have hz : (s.heap.push { cls := .type "tuple_iterator", data := .fields #[.ref l, .int 0 0] }).objs.size = s.heap.objs.size + 1 := Heap.size_push ..
  show _ ∧ _
  rw [hz]
  have he : IsEnum ((s.heap.push { cls := .type "tuple_iterator", data := .fields #[.ref l, .int 0 0] }).push
      { cls := .type "enumerate", data := .fields #[.none, .bool false, .ref s.heap.objs.size, rawInt 0, .none, .none] }) (s.heap.objs.size + 1) s.heap.objs.size 0 .none := by
    have := Heap.get?_push_size (s.heap.push { cls := .type "tuple_iterator", data := .fields #[.ref l, .int 0 0] })
      (o := { cls := .type "enumerate", data := .fields #[.none, .bool false, .ref s.heap.objs.size, rawInt 0, .none, .none] }) rfl
    rw [hz] at this; exact this
  refine ⟨⟨_, he, rfl⟩, h _ he ⟨_, Heap.get?_push_of_some _ (Heap.get?_push_size _ rfl), rfl, rfl⟩ (by rw [Heap.size_push, hz]) fun b o x => Heap.get?_push_of_some _ (Heap.get?_push_of_some _ x)⟩
end
end STab
namespace STab
open PySem PyProof.Rows
theorem enum_end {prog : Program} {w : World} {A : Around} {E : Value → Shared → Prop} {s : Shared} {e it t : Addr} {i : Int} {j : Nat} {old : Value} {items : Array Value} {Q : Option Value → Shared → Prop} (hh : A.handled = none) (he : IsEnum s.heap e it i old) (hit : s.heap.IsTupleIter it t j) (ht : s.heap.IsTuple t items) (hx : items[j]? = none)
    (hQ : ∀ h', Heap.ExtBut it s.heap h' → Q none { s with heap := h' }) : wpAny (model prog w) A (pyNext (.ref e)) Q E s := by
  have hT : s.TypeIs (.ref e) "enumerate" := ⟨_, he, rfl⟩
  unfold pyNext
  refine wpAny_bind (wpAny_attempt (wpAny_callSpecial?_slot (name := Str.ofString "__next__") hT F.slot_enumerate_next
    (wpAny_call_entry F.slot_enumerate_next hT F.entry_enumerate_next ?_ (F.args_enumerate_next_1 _))))
  show wpAny _ _ (field (.ref e) 2 >>= _) _ _ _
  refine wpAny_bind (wpAny_field he rfl (x := .ref it) rfl ?_)
  refine wpAny_bind (nextOf_tup_end hh hit ht hx fun h' x he' hx' => ?_)
  obtain ⟨o, ho, hc⟩ := hx'
  refine wpAny_bind (wpAny_isInstance (T := "StopIteration") (b := true) ⟨o, ho, hc⟩ isSubtype_stop ?_)
  exact wpAny_pure (hQ _ he')
end STab
namespace L2
open PySem PySem.Spec PyProof.Rows
theorem two_le : 2 ≤ sizeLine := by decide
section
variable {X : Cx} {pins : List (Addr × Obj)} {σ : St} {H : Hp} {s : Shared}
theorem Inv.turnedNew {fp : List Addr} {T : Addr} {o : HO} {h' : Heap} {t' : Nat} (I : Inv X pins σ H s) (k : ∀ b o, b ∉ fp → s.heap.get? b = some o → h'.get? b = some o) (hf : ∀ b ∈ fp, FpOk X pins H b) (hT : s.heap.objs.size ≤ T)
    (new : ObjOk X.prog X.w (upd H T o) h' T o) : Inv X pins σ (upd H T o) { s with heap := h', toks := t' } := by
  have nT : H T = none := I.hok.fresh hT
  have neT : ∀ b ob, s.heap.get? b = some ob → b ≠ T := fun b ob e z => by
    have := Heap.lt_size e
    rw [z] at this
    exact absurd (Nat.lt_of_lt_of_le this hT) (Nat.lt_irrefl _)
  have up : ∀ b u, H b = some u → upd H T o b = some u := fun b u e => by
    rw [upd_ne (fun z => by rw [z, nT] at e; cases e)]
    exact e
  refine I.step (g' := s.gens) (d' := s.drawn) (ch := fp) (fun b hb => ?_) (fun b ob _ _ hc e _ => k b ob hc e) (fun b ob _ _ hc e _ => ⟨ob.slots, k b ob hc e⟩) (fun b ob _ e n => by rw [upd_ne (neT b ob e)]; exact n)
    (fun b ob hc e => ⟨ob, k b ob hc e⟩) (fun b xs e => up b _ e) (fun b ob u e => up b _ e) (fun b ps e => ⟨#[], by rw [up b _ e]; simp⟩) (fun m hm => ?_) (fun b u e => ?_) I.bare
  · obtain ⟨f0, f1, f2, f3, f4, f5⟩ := hf b hb
    exact ⟨f3, f1, f4, f5⟩
  · obtain ⟨ob, es, ep, ho, r⟩ := hm
    exact ⟨ob, es, ep, k _ ob (fun z => (hf _ z).2.1 rfl) ho, r⟩
  · by_cases hb : b = T
    · subst hb
      rw [upd_same] at e
      cases e
      exact new
    · rw [upd_ne hb] at e
      refine (I.hok b u e).stay (fun c v hc q => k c v (fun z => ?_) q) (fun c q => up c _ q) fun c xs q => up c _ q
      rcases hc with z2 | z2
      · rw [z2] at z
        rw [(hf b z).1] at e
        cases e
      · rw [(hf c z).1] at z2
        cases z2
theorem Inv.turnedL {fp : List Addr} {h' : Heap} {t' : Nat} (I : Inv X pins σ H s) (k : ∀ b o, b ∉ fp → s.heap.get? b = some o → h'.get? b = some o) (hf : ∀ b ∈ fp, FpOk X pins H b) : Inv X pins σ H { s with heap := h', toks := t' } := by
  refine I.step (g' := s.gens) (d' := s.drawn) (ch := fp) (fun b hb => ?_) (fun b ob _ _ hc e _ => k b ob hc e) (fun b ob _ _ hc e _ => ⟨ob.slots, k b ob hc e⟩) (fun _ _ _ _ n => n)
    (fun b ob hc e => ⟨ob, k b ob hc e⟩) (fun _ _ e => e) (fun _ _ _ e => e) (fun b ps e => ⟨#[], by rw [e]; simp⟩) (fun m hm => ?_) (fun b u e => ?_) I.bare
  · obtain ⟨f0, f1, f2, f3, f4, f5⟩ := hf b hb
    exact ⟨f3, f1, f4, f5⟩
  · obtain ⟨ob, es, ep, ho, r⟩ := hm
    exact ⟨ob, es, ep, k _ ob (fun z => (hf _ z).2.1 rfl) ho, r⟩
  · refine (I.hok b u e).stay (fun c v hc q => k c v (fun z => ?_) q) (fun _ q => q) fun _ _ q => q
    rcases hc with z2 | z2
    · rw [z2] at z
      rw [(hf b z).1] at e
      cases e
    · rw [(hf c z).1] at z2
      cases z2
end
def Ite (K : PySem.W.Frag) (a : Addr) : It :=
  ⟨fun i H => ∃ xs x, SqT K H a xs ∧ xs[i]? = some x, fun i H v H' => ∃ T x, v = .ref T ∧ H T = none ∧ H' = upd H T (.tup [.int (i : Int), x]) ∧ ∀ xs, SqT K H a xs → xs[i]? = some x, fun i H => ∃ xs, SqT K H a xs ∧ xs.length ≤ i⟩
theorem turn_enum {P : Program} {w : World} {K : PySem.W.Frag} {elts : List Expr} {x1} {tp : Pos} (a it e : Addr) (hei : e ≠ it) : Turn P w K (.Tuple elts x1 tp) (Ite K a) [e, it] e (fun i h => (∃ old, IsEnum h e it (i : Int) old) ∧ h.IsTupleIter it a i) where
  mem := by simp
  obj := fun i h st b hb => by
    obtain ⟨⟨old, he⟩, o, ho, hc, hd⟩ := st
    rcases List.mem_cons.mp hb with z | z
    · subst z
      exact ⟨_, he, fun v q => by cases (show Data.fields _ = Data.cell v from q)⟩
    · rw [List.mem_singleton.mp z]
      exact ⟨o, ho, fun v q => by rw [hd] at q; cases q⟩
  keep := fun i h h' st k => ⟨let ⟨old, he⟩ := st.1; ⟨old, k e (by simp) _ he⟩, st.2.at fun o q => k it (by simp) o q⟩
  item := by
    intro X hP hw hK hc i pins s σ H E I hf st hg
    subst hP hw hK
    obtain ⟨xs, x, hq, hx⟩ := hg
    obtain ⟨its, rv, p, hz⟩ := I.tuple hq
    obtain ⟨u, hu, ru⟩ := rv.get hx
    obtain ⟨⟨old, he⟩, hit⟩ := st
    have ht : s.heap.IsTuple a its.toArray := p
    have hi : i < its.toArray.size := by
      rw [List.size_toArray]
      exact (List.getElem?_eq_some_iff.mp hu).1
    have fe := hf e (by simp)
    have fi := hf it (by simp)
    have lt_e : e < s.heap.objs.size := Heap.lt_size he
    have nat_ : ∀ z, H z = none → z ≠ a → True := fun _ _ _ => trivial
    have at_e : a ≠ e := by
      rintro rfl
      obtain ⟨o, ho, hcl, _⟩ := ht
      rw [he] at ho; cases ho
      exact absurd (show Value.type "enumerate" = Value.type "tuple" from hcl) (by decide)
    have at_i : a ≠ it := by
      rintro rfl
      obtain ⟨o, ho, hcl, _⟩ := ht
      obtain ⟨o', ho', hc', _⟩ := hit
      rw [ho] at ho'; cases ho'
      rw [hcl] at hc'
      exact absurd hc' (by decide)
    have hh1 : X.A.in1.handled = none := I.ok.hd hc
    have D := STab.draws_tup (prog := X.prog) (w := X.w) hh1 it a at_i its.toArray
    refine wpAny_pyNext_enum_itemD D he ⟨hit, ht⟩ hi hei (by simp [hei, Ne.symm at_e]) fun y h1 tk hP ho hs hT hsz hk => ?_
    have ey : y = u := by
      have h2 : its.toArray[i]? = some u := by simpa using hu
      rw [h2] at hP
      exact (Option.some.inj hP).symm
    subst ey
    refine ⟨.ref s.heap.objs.size, rfl, wpAny_letOwnedTupleGo_enum ho fun h2 he2 sb => ?_⟩
    have hT2 : h2.get? s.heap.objs.size = some { cls := .type "tuple", data := .seq #[.int i tk, y] } := (sb.2 _ (Nat.ne_of_gt lt_e)).trans hT
    have I2 : Inv X pins σ (upd H s.heap.objs.size (.tup [.int (i : Int), x])) { s with heap := h2, toks := tk + 1 } := by
      refine I.turnedNew (fp := [e, it]) (fun b ob hb q => ?_) hf (Nat.le_refl _) ⟨two_le, [.int i tk, y], .cons ⟨_, rfl⟩ (.cons ru .nil), ⟨_, hT2, rfl, _, rfl⟩⟩
      have hb1 : b ≠ e := fun z => hb (by simp [z])
      have hb2 : b ≠ it := fun z => hb (by simp [z])
      exact (sb.2 b hb1).trans (hk b ob hb1 hb2 q)
    refine ⟨.ref s.heap.objs.size, _, I2, rfl, ⟨s.heap.objs.size, x, rfl, I.hok.fresh (Nat.le_refl _), rfl, fun ys hy => by rw [I.tuple_inj hy hq]; exact hx⟩, ⟨⟨_, by simpa using he2⟩, hs.1.at fun o q => (sb.2 it (Ne.symm hei)).trans q⟩, fun b hb => ?_⟩
    rw [upd_ne]
    · exact (hf b hb).1
    · rcases List.mem_cons.mp hb with z | z
      · rw [z]; exact Nat.ne_of_lt lt_e
      · rw [List.mem_singleton.mp z]
        obtain ⟨o, ho, _⟩ := hit
        exact Nat.ne_of_lt (Heap.lt_size ho)
  done := by
    intro X hP hw hK hc i pins s σ H E I hf st hg
    subst hP hw hK
    obtain ⟨xs, hq, hx⟩ := hg
    obtain ⟨its, rv, p, hz⟩ := I.tuple hq
    obtain ⟨⟨old, he⟩, hit⟩ := st
    have ht : s.heap.IsTuple a its.toArray := p
    have at_i : a ≠ it := by
      rintro rfl
      obtain ⟨o, ho, hcl, _⟩ := ht
      obtain ⟨o', ho', hc', _⟩ := hit
      rw [ho] at ho'; cases ho'
      rw [hcl] at hc'
      exact absurd hc' (by decide)
    have hl := rv.length
    refine STab.enum_end (I.ok.hd hc) he hit ht (by simp; omega) fun h' eb => ⟨rfl, I.turnedL (t' := s.toks) (fp := [e, it]) (fun b o hb q => eb b o (fun z => hb (by simp [z])) q) hf⟩
  self := fun _ _ _ _ _ st h => let ⟨_, he⟩ := st.1; wpAny_pyIter_enum he h
section
variable {X : Cx}
def iEnum (K : PySem.W.Frag) (tl : TE) : TI := fun σ H R => tl σ H fun x H1 => ∃ a, x = .ref a ∧ (∃ xs, SqT K H1 a xs) ∧ R (Ite K a) H1
theorem pi_enum {elts : List Expr} {x1} {tp : Pos} {l : Expr} {tl : TE} {p pos : Pos} (hg : Gl X "enumerate") (hm : X.mg "enumerate" = none) (hl : PE X l tl) (hs : starEach [l] X.env = [(false, eval l X.env)] := by rfl) :
    PI X (.Tuple elts x1 tp) (.Call (.Name "enumerate" p) [l] [] pos) (iEnum X.K tl) := by
  intro pins s σ H R I h
  refine Call_ (ld_blt I hg hm boot_enumerate (PyProof.Rows.callWith_type1 (thn (pa_cons hl pa_nil hs pos pins s σ H (fun vs H1 => match vs with | [x] => ∃ a, x = .ref a ∧ (∃ xs, SqT X.K H1 a xs) ∧ R (Ite X.K a) H1 | _ => False) I h) fun us s1 ⟨vs, H1, I1, r1, q⟩ => ?_) hs rfl))
  rcases vs with _ | ⟨x, _ | ⟨y, vs⟩⟩
  · exact False.elim q
  · obtain ⟨a, e2, ⟨xs, hq⟩, q⟩ := q
    subst e2
    obtain ⟨u, rfl, ru⟩ := vals1 r1
    cases ru
    obtain ⟨its, rv, pt, hz⟩ := I1.tuple hq
    refine STab.call_enum_tup (show s1.heap.IsTuple a its.toArray from pt) fun h' he hit hsz k => ?_
    have I2 : Inv X pins σ H1 { s1 with heap := h' } := I1.kept (t' := s1.toks) k
    refine wpAny_pyIter_enum (s := { s1 with heap := h' }) he ?_
    refine ⟨s1.heap.objs.size + 1, [s1.heap.objs.size + 1, s1.heap.objs.size], _, _, H1, rfl, I2, turn_enum a s1.heap.objs.size (s1.heap.objs.size + 1) (Nat.succ_ne_self _), ⟨⟨_, he⟩, hit⟩, fun b hb => ?_, q⟩
    have hb' : s1.heap.objs.size ≤ b := by
      rcases List.mem_cons.mp hb with z | z
      · rw [z]; exact Nat.le_succ _
      · rw [List.mem_singleton.mp z]; exact Nat.le_refl _
    exact I1.fpOk hb' (I1.hok.fresh hb')
  · exact False.elim q
end
theorem for_enum {K : PySem.W.Frag} {a : Addr} {xs : List V} {g : TG} {tb : TS} {D : Ends} {σ : St} {H : Hp} (Pv : Nat → St → Hp → Prop) (h0 : Pv 0 σ H) (hl : ∀ i σ H, i ≤ xs.length → Pv i σ H → SqT K H a xs)
    (hs : ∀ i x σ H T, xs[i]? = some x → Pv i σ H → H T = none → g (.ref T) σ (upd H T (.tup [.int (i : Int), x])) fun σ2 H2 => tb { D with nx := Pv (i + 1), ct := Pv (i + 1), bk := D.nx } σ2 H2) (hd : ∀ σ H, Pv xs.length σ H → D.nx σ H) :
    ∃ W : Nat → Nat → St → Hp → Prop, (∃ m, W 0 m σ H) ∧ ∀ i m σ H, W i m σ H →
      ((Ite K a).stop i H ∧ D.nx σ H) ∨ ((Ite K a).go i H ∧ ∃ N : St → Hp → Prop, (∀ σ' H', N σ' H' → ∃ m', m' < m ∧ W (i + 1) m' σ' H') ∧ ∀ x H', (Ite K a).yld i H x H' → g x σ H' fun σ2 H2 => tb { D with nx := N, ct := N, bk := D.nx } σ2 H2) := by
  refine ⟨fun i m σ H => m = xs.length - i ∧ i ≤ xs.length ∧ Pv i σ H, ⟨xs.length, by simp, Nat.zero_le _, h0⟩, ?_⟩
  rintro i m σ H ⟨rfl, hi, p⟩
  have q := hl i σ H hi p
  by_cases hlt : i < xs.length
  · refine .inr ⟨⟨xs, xs[i], q, by simp [hlt]⟩, Pv (i + 1), fun σ' H' p' => ⟨xs.length - (i + 1), by omega, rfl, hlt, p'⟩, fun x H' y => ?_⟩
    obtain ⟨T, z, rfl, hT, rfl, y⟩ := y
    exact hs i z σ _ T (y xs q) p hT
  · have e : i = xs.length := by omega
    subst e
    exact .inl ⟨⟨xs, q, Nat.le_refl _⟩, hd σ H p⟩
end L2
namespace L2
open PySem PySem.Spec PyProof.Rows
section
variable {X : Cx} {K : PySem.W.Frag}
def rCount (K : PySem.W.Frag) : V → List V → Hp → VK → Prop := fun x vs H Q => ∃ (l : Addr) (ns : List Int) (k : Int), x = .ref l ∧ vs = [.int k] ∧ SqL K H l (ns.map V.int) ∧ Q (.int (ns.count k : Nat)) H
theorem kmt_count (h : X.K = K) : MtM X "list.count" (rCount K) := h ▸ mt_count
variable {o e : Expr} {es : List Expr} {to : TE} {t : TA} {name : Str} {apos cpos : Pos} {T id : String} {r : V → List V → Hp → VK → Prop}
theorem kpe_bm (hK : X.K = K) (pa : PlainAttrs T) (slot : Slot T name id) (hty : typeOf (.builtin id) = pure (.type "method_descriptor")) (hm : MtR X id r) (ho : PE X o to) (ha : PA X (e :: es) t)
    (hbase : attributeBase o name X.env (eval o X.env) = eval o X.env := by rfl)
    (hfew : ((backTo cpos (starEach (e :: es) X.env)).all (fun x => !x.1) && (backToKw cpos (keywordEach [] X.env)).all (fun x => x.1.isSome)
      && decide ((e :: es).length + ([] : List Keyword).length + (if ([] : List Keyword).isEmpty then 0 else 1) < 30)) = true := by rfl)
    (hline : (apos.endLine == cpos.line) = true := by rfl) (hs : starEach (e :: es) X.env = (false, eval e X.env) :: starEach es X.env := by rfl) (hplain : (backTo cpos (starEach es X.env)).any (·.1) = false := by rfl) :
    PE X (.Call (.Attribute o name apos) (e :: es) [] cpos) (tBM K T r to t) := hK ▸ pe_bm pa slot hty hm ho ha hbase hfew hline hs hplain
end
end L2
namespace My
open PySem L2

theorem mod_lo (x : Int) {n : Int} (h : 0 < n) : 0 ≤ x % n := Int.emod_nonneg x (by omega)
theorem mod_hi (x : Int) {n : Int} (h : 0 < n) : x % n < n := Int.emod_lt_of_pos x h
theorem mod_split (x n : Int) : x = n * (x / n) + x % n := (Int.mul_ediv_add_emod x n).symm
theorem emod_eq {x y n : Int} (k : Int) (h : x - y = n * k) : x % n = y % n := by
  have e : x = y + n * k := by omega
  rw [e, Int.add_mul_emod_self_left]
def kS (t : Bool) : Str := match t with
  | true => "turn"
  | false => "mirror"
theorem kS_turn (t : Bool) : decide (V.str (kS t) = V.str "turn") = t := by
  cases t <;> decide +kernel
abbrev chV (t : Bool) (m : Int) : List V := [V.str (kS t), V.int m]
def dn (n : Int) (t : Bool) (m x : Int) : Int := match t with
  | true => (x + m) % n
  | false => (m - x) % n
def bk (n : Int) (t : Bool) (m : Int) : Int := match t with
  | true => (-m) % n
  | false => m % n
theorem dn_lo {n : Int} (h : 0 < n) (t : Bool) (m x : Int) : 0 ≤ dn n t m x := by
  cases t <;> exact mod_lo _ h
theorem dn_hi {n : Int} (h : 0 < n) (t : Bool) (m x : Int) : dn n t m x < n := by
  cases t <;> exact mod_hi _ h
theorem dn_then (n : Int) (t u : Bool) (m k x : Int) : dn n (t == u) (dn n u k m) x = dn n u k (dn n t m x) := by
  cases t <;> cases u
  · show (x + (k - m) % n) % n = (k - (m - x) % n) % n
    have a := mod_split (k - m) n
    have b := mod_split (m - x) n
    refine emod_eq (-((k - m) / n) - (m - x) / n) ?_
    rw [Int.mul_sub, Int.mul_neg]; omega
  · show ((m + k) % n - x) % n = ((m - x) % n + k) % n
    have a := mod_split (m + k) n
    have b := mod_split (m - x) n
    refine emod_eq ((m - x) / n - (m + k) / n) ?_
    rw [Int.mul_sub]; omega
  · show ((k - m) % n - x) % n = (k - (x + m) % n) % n
    have a := mod_split (k - m) n
    have b := mod_split (x + m) n
    refine emod_eq (-((k - m) / n) - (x + m) / n) ?_
    rw [Int.mul_sub, Int.mul_neg]; omega
  · show (x + (m + k) % n) % n = ((x + m) % n + k) % n
    have a := mod_split (m + k) n
    have b := mod_split (x + m) n
    refine emod_eq ((x + m) / n - (m + k) / n) ?_
    rw [Int.mul_sub]; omega
theorem dn_back {n : Int} (t : Bool) (m : Int) {x : Int} (h0 : 0 ≤ x) (h1 : x < n) : dn n t (bk n t m) (dn n t m x) = x := by
  cases t
  · show (m % n - (m - x) % n) % n = x
    have a := mod_split m n
    have b := mod_split (m - x) n
    rw [emod_eq (y := x) ((m - x) / n - m / n) (by rw [Int.mul_sub]; omega)]
    exact Int.emod_eq_of_lt h0 h1
  · show ((x + m) % n + (-m) % n) % n = x
    have a := mod_split (-m) n
    have b := mod_split (x + m) n
    rw [emod_eq (y := x) (-((x + m) / n) - (-m) / n) (by rw [Int.mul_sub, Int.mul_neg]; omega)]
    exact Int.emod_eq_of_lt h0 h1
theorem two_fit : 2 ≤ sizeLine := by decide

def ChgR (H : Hp) (v : V) (c : Bool × Int) : Prop := ∃ p, v = .ref p ∧ H p = some (.tup (chV c.1 c.2))
theorem ChgR.mono {H1 H2 : Hp} {v : V} {c : Bool × Int} (t : TupKeep H1 H2) (r : ChgR H1 v c) : ChgR H2 v c := let ⟨p, e, h⟩ := r; ⟨p, e, t _ _ h⟩
def rng (n : Int) : List Int := (List.range n.toNat).map fun (i : Nat) => 0 + (i : Int)
theorem rng_len (n : Int) : (rng n).length = n.toNat := by simp [rng]
def allC (n : Int) : List (Bool × Int) := (rng n).map (fun k => (true, k)) ++ (rng n).map (fun k => (false, k))
theorem allC_len (n : Int) : (allC n).length = 2 * n.toNat := by
  unfold allC
  rw [List.length_append, List.length_map, List.length_map, rng_len]
  omega
theorem filter_all {α : Type} (l : List α) : l.filter (fun _ => true) = l := by simp

theorem rngL0 (n : Int) : rngL 0 n = rng n := by simp [rngL, rng]
theorem rng_mem {n x : Int} : x ∈ rng n ↔ 0 ≤ x ∧ x < n := by
  unfold rng
  rw [List.mem_map]
  constructor
  · rintro ⟨i, hi, rfl⟩
    have := List.mem_range.mp hi
    omega
  · rintro ⟨h0, h1⟩
    exact ⟨x.toNat, List.mem_range.mpr (by omega), by omega⟩
theorem pw_range (n : Nat) : ((List.range n).map fun (i : Nat) => (0 : Int) + (i : Int)).Pairwise (· < ·) := by
  rw [List.pairwise_map]
  exact List.Pairwise.imp (fun h => by omega) List.pairwise_lt_range
theorem rng_pw (n : Int) : (rng n).Pairwise (· < ·) := pw_range _
theorem srt_ext : ∀ {a b : List Int}, a.Pairwise (· < ·) → b.Pairwise (· < ·) → (∀ x, x ∈ a ↔ x ∈ b) → a = b
  | [], [], _, _, _ => rfl
  | [], y :: b, _, _, h => by have := (h y).mpr (List.mem_cons_self ..); cases this
  | x :: a, [], _, _, h => by have := (h x).mp (List.mem_cons_self ..); cases this
  | x :: a, y :: b, pa, pb, h => by
    rw [List.pairwise_cons] at pa pb
    have e : x = y := by
      rcases List.mem_cons.mp ((h x).mp (List.mem_cons_self ..)) with e | e
      · exact e
      · rcases List.mem_cons.mp ((h y).mpr (List.mem_cons_self ..)) with e2 | e2
        · exact e2.symm
        · have := pb.1 x e
          have := pa.1 y e2
          omega
    subst e
    rw [srt_ext pa.2 pb.2 fun z => ?_]
    constructor
    · intro hz
      rcases List.mem_cons.mp ((h z).mp (List.mem_cons_of_mem _ hz)) with e | e
      · subst e
        have := pa.1 z hz
        omega
      · exact e
    · intro hz
      rcases List.mem_cons.mp ((h z).mpr (List.mem_cons_of_mem _ hz)) with e | e
      · subst e
        have := pb.1 z hz
        omega
      · exact e
theorem lt_of_le_nodup : ∀ {a : List Int}, a.Pairwise (· ≤ ·) → a.Nodup → a.Pairwise (· < ·)
  | [], _, _ => .nil
  | x :: a, h, d => by
    rw [List.pairwise_cons] at h
    rw [List.nodup_cons] at d
    refine List.Pairwise.cons (fun y hy => ?_) (lt_of_le_nodup h.2 d.2)
    have := h.1 y hy
    have : x ≠ y := fun e => d.1 (by rw [e]; exact hy)
    omega
theorem nodup_len : ∀ {a b : List Int}, a.Nodup → (∀ x ∈ a, x ∈ b) → a.length ≤ b.length
  | [], _, _, _ => Nat.zero_le _
  | x :: a, b, d, h => by
    rw [List.nodup_cons] at d
    have hx := h x (List.mem_cons_self ..)
    have ih : a.length ≤ (b.erase x).length := nodup_len d.2 fun y hy => by
      have hy' := h y (List.mem_cons_of_mem _ hy)
      exact (List.mem_erase_of_ne (fun e => d.1 (by rw [← e]; exact hy))).mpr hy'
    rw [List.length_erase_of_mem hx] at ih
    have := List.length_pos_of_mem hx
    rw [List.length_cons]
    omega
theorem erase_map {α β : Type} (f : α → β) : ∀ (l : List α) (i : Nat), (l.map f).eraseIdx i = (l.eraseIdx i).map f
  | [], _ => rfl
  | _ :: _, 0 => rfl
  | x :: l, i + 1 => by
    show f x :: (l.map f).eraseIdx i = f x :: (l.eraseIdx i).map f
    rw [erase_map f l i]
theorem seq_ix {j : Int} {n : Nat} (h0 : 0 ≤ j) (h1 : j < n) : seqIndex? j n = some j.toNat := by
  unfold seqIndex?
  have e : ¬ j < 0 := by omega
  simp only [e, if_false]
  rw [if_pos (by rw [decide_eq_true h0, decide_eq_true h1]; rfl)]
def cw (n : Int) (p : Int → Bool) : List Int := (rng n).filter p
theorem cw_pw (n : Int) (p : Int → Bool) : (cw n p).Pairwise (· < ·) := (rng_pw n).filter _
theorem cw_mem {n x : Int} {p : Int → Bool} : x ∈ cw n p ↔ (0 ≤ x ∧ x < n) ∧ p x = true := by
  unfold cw
  rw [List.mem_filter, rng_mem]
theorem cw_len (n : Int) (p : Int → Bool) : (cw n p).length ≤ n.toNat := by
  have := List.length_filter_le p (rng n)
  rw [rng_len] at this
  exact this
theorem cw_of {n : Int} {xs : List Int} (h : xs.Pairwise (· < ·)) (hm : ∀ x ∈ xs, 0 ≤ x ∧ x < n) : xs = cw n fun x => decide (x ∈ xs) :=
  srt_ext h (cw_pw _ _) fun x => by
    rw [cw_mem]
    simp only [decide_eq_true_eq]
    exact ⟨fun e => ⟨hm x e, e⟩, fun e => e.2⟩
theorem inV_int (x : Int) (xs : List Int) : inV (V.int x) (xs.map V.int) = decide (x ∈ xs) := by
  unfold inV
  rw [List.any_map, Bool.eq_iff_iff]
  simp only [List.any_eq_true, Function.comp, decide_eq_true_eq]
  constructor
  · rintro ⟨y, hy, e⟩
    have : y = x := by simpa [eqV] using e
    rw [← this]; exact hy
  · intro h
    exact ⟨x, h, by simp [eqV]⟩
theorem flat_ints (xs : List Int) : (xs.map V.int).all flatV = true := by
  rw [List.all_map, List.all_eq_true]
  intro x _
  rfl
theorem plain_ints (xs : List Int) : (xs.map V.int).all plainV = true := by
  rw [List.all_map, List.all_eq_true]
  intro x _
  rfl
theorem vints_inj : ∀ {xs ys : List Int}, xs.map V.int = ys.map V.int → xs = ys
  | [], [], _ => rfl
  | [], _ :: _, h => by cases h
  | _ :: _, [], h => by cases h
  | x :: xs, y :: ys, h => by
    rw [List.map_cons, List.map_cons, List.cons.injEq] at h
    rw [V.int.inj h.1, vints_inj h.2]
theorem dec_ints (xs ys : List Int) : decide (xs.map V.int = ys.map V.int) = decide (xs = ys) := by
  rw [Bool.eq_iff_iff]
  simp only [decide_eq_true_eq]
  exact ⟨vints_inj, fun e => by rw [e]⟩
theorem fit1000 {k : Nat} (h : k ≤ 1000) : k ≤ sizeLine := Nat.le_trans h (by decide)
theorem fit999 {k : Nat} (h : k ≤ 999) : k < sizeLine := Nat.lt_of_le_of_lt h (by decide)
def img (n : Int) (t : Bool) (m : Int) (cs : List Int) : List Int := cw n fun y => decide (y ∈ cs.map (dn n t m))
theorem set_sorted {ns ls : List Int} (pm : ls.Perm (ns.foldl STab.addI [])) (pw : ls.Pairwise (· ≤ ·)) {n : Int} (hb : ∀ x ∈ ns, 0 ≤ x ∧ x < n) : ls = cw n fun x => decide (x ∈ ns) := by
  have nd : ls.Nodup := pm.nodup_iff.mpr (STab.nodup_adds List.nodup_nil)
  refine srt_ext (lt_of_le_nodup pw nd) (cw_pw _ _) fun x => ?_
  rw [cw_mem, pm.mem_iff, STab.mem_adds]
  simp only [decide_eq_true_eq]
  constructor
  · rintro (h | h)
    · exact ⟨hb x h, h⟩
    · cases h
  · exact fun h => .inl h.2
theorem dn_inj {n : Int} (t : Bool) (m : Int) {x y : Int} (hx : 0 ≤ x ∧ x < n) (hy : 0 ≤ y ∧ y < n) (e : dn n t m x = dn n t m y) : x = y := by
  rw [← dn_back t m hx.1 hx.2, ← dn_back t m hy.1 hy.2, e]
def Tones (n : Int) (cs : List Int) : Prop := cs.Pairwise (· < ·) ∧ ∀ x ∈ cs, 0 ≤ x ∧ x < n
theorem cw_tones (n : Int) (f : Int → Bool) : Tones n (cw n f) := ⟨cw_pw n f, fun _ hx => (cw_mem.mp hx).1⟩
theorem Tones.cw {n : Int} {cs : List Int} (h : Tones n cs) : cs = cw n fun x => decide (x ∈ cs) := cw_of h.1 h.2
theorem Tones.len {n : Int} {cs : List Int} (h : Tones n cs) : cs.length ≤ n.toNat := by
  rw [h.cw]; exact cw_len _ _
theorem Tones.ext {n : Int} {cs ds : List Int} (h : Tones n cs) (k : Tones n ds) (e : ∀ x, x ∈ cs ↔ x ∈ ds) : cs = ds := srt_ext h.1 k.1 e
theorem img_tones (n : Int) (t : Bool) (m : Int) (cs : List Int) : Tones n (img n t m cs) := cw_tones _ _
theorem img_mem {n : Int} (h : 0 < n) {t : Bool} {m : Int} {cs : List Int} {y : Int} : y ∈ img n t m cs ↔ ∃ x, x ∈ cs ∧ dn n t m x = y := by
  unfold img
  rw [cw_mem]
  simp only [decide_eq_true_eq, List.mem_map]
  constructor
  · exact fun z => z.2
  · rintro ⟨x, hx, rfl⟩
    exact ⟨⟨dn_lo h _ _ _, dn_hi h _ _ _⟩, x, hx, rfl⟩
theorem img_nodup {n : Int} (t : Bool) (m : Int) {cs : List Int} (h : Tones n cs) : (cs.map (dn n t m)).Nodup := by
  unfold List.Nodup
  rw [List.pairwise_map]
  exact h.1.imp_of_mem fun ha hb hlt e => by
    have := dn_inj t m (h.2 _ ha) (h.2 _ hb) e
    omega
theorem img_sorted {n : Int} (hn : 0 < n) {t : Bool} {m : Int} {cs ls : List Int} (h : Tones n cs) (pm : ls.Perm (cs.map (dn n t m))) (pw : ls.Pairwise (· ≤ ·)) : ls = img n t m cs := by
  refine srt_ext (lt_of_le_nodup pw (pm.nodup_iff.mpr (img_nodup t m h))) (cw_pw _ _) fun x => ?_
  rw [pm.mem_iff]
  show x ∈ cs.map (dn n t m) ↔ x ∈ img n t m cs
  rw [img_mem hn, List.mem_map]
theorem img_len {n : Int} (hn : 0 < n) (t : Bool) (m : Int) {cs : List Int} (h : Tones n cs) : (img n t m cs).length = cs.length := by
  have nd := img_nodup t m h
  have a : (img n t m cs).length ≤ (cs.map (dn n t m)).length := by
    refine nodup_len ((cw_pw _ _).imp fun h => Int.ne_of_lt h) fun x hx => ?_
    rw [List.mem_map]
    exact (img_mem hn).mp hx
  have b : (cs.map (dn n t m)).length ≤ (img n t m cs).length := by
    refine nodup_len nd fun x hx => ?_
    rw [List.mem_map] at hx
    exact (img_mem hn).mpr hx
  rw [List.length_map] at a b
  omega
def wys (n : Int) (cs ds : List Int) : List (Bool × Int) := (allC n).filter fun c => decide (img n c.1 c.2 cs = ds)
end My
namespace L2
open PySem
theorem comp_int {β : Type} {js : List Nat} {tc : TT} {te : TE} {σ : St} {H : Hp} {Fin : Addr → Hp → Prop} {J : It} (bs : List β) (val : β → V) (p : β → Bool) (f : β → Int)
    (hJ : ∀ H', Same H H' → (∀ i b, bs[i]? = some b → J.go i H' ∧ ∀ v H2, J.yld i H' v H2 → v = val b ∧ H2 = H') ∧ J.stop bs.length H')
    (ht : ∀ b H', b ∈ bs → Same H H' → ∀ Q2 : Bool → Hp → Prop, (∀ H3, Same H' H3 → Q2 (p b) H3) → tc (blkSt js σ (some (val b))) H' Q2)
    (he : ∀ b H', b ∈ bs → p b = true → Same H H' → ∀ Q2 : VK, (∀ H4, Same H' H4 → Q2 (.int (f b)) H4) → te (blkSt js σ (some (val b))) H' Q2)
    (hn : bs.length ≤ sizeLine)
    (hd : ∀ D H', H D = none → Same H H' → H' D = some (.lst (((bs.filter p).map f).map V.int)) → Fin D H') : CompBy js tc te σ J H Fin :=
  comp_grow bs val p f (fun _ v c => v = .int c) (fun _ _ _ _ _ r => r) hJ ht (fun b H' hb hp s Q2 h => he b H' hb hp s Q2 fun H4 s4 => h _ H4 s4 rfl) hn
    fun D ws H' h0 s hL pr => hd D H' h0 s (by rw [hL, prd_map pr])
end L2
namespace My
open PySem L2
def dist (n a b : Int) : Int := if (a - b) % n < (b - a) % n then (a - b) % n else (b - a) % n
def dists (n : Int) (cs : List Int) : List Int := (List.range cs.length).flatMap fun i => (cs.take i).map fun o => dist n (cs.getD i 0) o
def cntL (lo : Int) (m : Nat) (l : List Int) : List Int := (List.range m).map fun (k : Nat) => ((l.count (lo + (k : Int)) : Nat) : Int)
def cnts (n : Int) (cs : List Int) : List Int := cntL 1 (n / 2 + 1 - 1).toNat (dists n cs)
theorem turn_zero {n : Int} (hn : 0 < n) {cs : List Int} (h : Tones n cs) : img n true 0 cs = cs := by
  refine (img_tones n true 0 cs).ext h fun x => ?_
  rw [img_mem hn]
  constructor
  · rintro ⟨y, hy, e⟩
    have e : (y + 0) % n = x := e
    have := h.2 y hy
    rw [Int.add_zero, Int.emod_eq_of_lt this.1 this.2] at e
    rw [← e]; exact hy
  · intro hx
    have := h.2 x hx
    refine ⟨x, hx, ?_⟩
    show (x + 0) % n = x
    rw [Int.add_zero, Int.emod_eq_of_lt this.1 this.2]
def TupR (H : Hp) (v : V) (k : List Int) : Prop := ∃ r, v = .ref r ∧ H r = some (.tup (k.map V.int))
theorem TupR.mono {H1 H2 : Hp} {v : V} {k : List Int} (t : TupKeep H1 H2) (r : TupR H1 v k) : TupR H2 v k := let ⟨p, e, h⟩ := r; ⟨p, e, t _ _ h⟩
theorem new_all {H : Hp} {D : Addr} {o : HO} (h : H D = none) : Same H (upd H D o) ∧ upd H D o D = some o := ⟨Same.new h, upd_same⟩
end My
namespace STab
open PySem PySem.SetTable

def adv (m : Nat) (p : Probe) : Probe :=
  if p.more > 0 then { p with j := p.j + 1, more := p.more - 1 } else
  { p with j := (leap m p.i p.perturb).1, more := runEnd m (leap m p.i p.perturb).1 - (leap m p.i p.perturb).1, i := (leap m p.i p.perturb).1, perturb := (leap m p.i p.perturb).2 }
def pth (m : Nat) : Nat → Probe → Probe
  | 0, p => p
  | k + 1, p => pth m k (adv m p)
theorem pth_add (m : Nat) : ∀ (a b : Nat) (p : Probe), pth m (a + b) p = pth m b (pth m a p)
  | 0, b, p => by rw [Nat.zero_add]; rfl
  | a + 1, b, p => by
    rw [show a + 1 + b = (a + b) + 1 by omega]
    show pth m (a + b) (adv m p) = pth m b (pth m a (adv m p))
    exact pth_add m a b _
theorem adv_dummy (m : Nat) (p : Probe) : (adv m p).dummy = p.dummy := by unfold adv; split <;> rfl
theorem pth_dummy (m : Nat) : ∀ (k : Nat) (p : Probe), (pth m k p).dummy = p.dummy
  | 0, _ => rfl
  | k + 1, p => (pth_dummy m k _).trans (adv_dummy m p)
def stp0 (m : Nat) (x : Nat × Nat) (d : Option Nat) : Probe := { j := x.1, more := runEnd m x.1 - x.1, i := x.1, perturb := x.2, dummy := d }
theorem run_end : ∀ (r m : Nat) (p : Probe), p.more = r → pth m (r + 1) p = stp0 m (leap m p.i p.perturb) p.dummy
  | 0, m, p, h => by
    show adv m p = _
    unfold adv
    rw [if_neg (by omega)]
    rfl
  | r + 1, m, p, h => by
    show pth m (r + 1) (adv m p) = _
    have e : adv m p = { p with j := p.j + 1, more := p.more - 1 } := by unfold adv; rw [if_pos (by omega)]
    rw [e, run_end r m _ (by show p.more - 1 = r; omega)]
theorem run_len (m i : Nat) : runEnd m i - i ≤ 9 := by unfold runEnd; split <;> omega
def lp (m : Nat) : Nat → Nat × Nat → Nat × Nat
  | 0, x => x
  | L + 1, x => lp m L (leap m x.1 x.2)
theorem lp_visit (m : Nat) : ∀ (L : Nat) (p : Probe), p.more ≤ 9 → ∃ k, k ≤ 10 * (L + 1) ∧ pth m k p = stp0 m (lp m (L + 1) (p.i, p.perturb)) p.dummy
  | 0, p, h => ⟨p.more + 1, by omega, run_end _ m p rfl⟩
  | L + 1, p, h => by
    obtain ⟨k, hk, e⟩ := lp_visit m L (stp0 m (leap m p.i p.perturb) p.dummy) (run_len m _)
    refine ⟨(p.more + 1) + k, by omega, ?_⟩
    rw [pth_add, run_end _ m p rfl, e]
    rfl
theorem lp_pert (m : Nat) : ∀ (L : Nat) (x : Nat × Nat), (lp m L x).2 = x.2 / 32 ^ L
  | 0, x => by show x.2 = x.2 / 32 ^ 0; simp
  | L + 1, x => by
    show (lp m L (leap m x.1 x.2)).2 = _
    rw [lp_pert m L]
    show x.2 / 32 / 32 ^ L = x.2 / 32 ^ (L + 1)
    rw [Nat.div_div_eq_div_mul, Nat.pow_succ, Nat.mul_comm]
theorem lp_add (m : Nat) : ∀ (a b : Nat) (x : Nat × Nat), lp m (a + b) x = lp m b (lp m a x)
  | 0, b, x => by rw [Nat.zero_add]; rfl
  | a + 1, b, x => by
    rw [show a + 1 + b = (a + b) + 1 by omega]
    exact lp_add m a b _
def itf (m : Nat) : Nat → Nat → Nat
  | 0, i => i
  | s + 1, i => itf m s ((i * 5 + 1) % (m + 1))
theorem itf_add (m : Nat) : ∀ (a b i : Nat), itf m (a + b) i = itf m b (itf m a i)
  | 0, b, i => by rw [Nat.zero_add]; rfl
  | a + 1, b, i => by
    rw [show a + 1 + b = (a + b) + 1 by omega]
    exact itf_add m a b _
theorem lp_zero (m : Nat) : ∀ (s i : Nat), lp m s (i, 0) = (itf m s i, 0)
  | 0, _ => rfl
  | s + 1, i => by
    show lp m s (leap m i 0) = _
    have e : leap m i 0 = ((i * 5 + 1) % (m + 1), 0) := rfl
    rw [e, lp_zero m s]
    rfl
structure Full (m : Nat) : Prop where
  all : ∀ e, e ≤ m → ∃ a, a ≤ m ∧ itf m a 0 = e
  back : itf m (m + 1) 0 = 0
theorem Full.go {m : Nat} (F : Full m) {i e : Nat} (hi : i ≤ m) (he : e ≤ m) : ∃ s, s ≤ m ∧ itf m s i = e := by
  obtain ⟨a, ha, ea⟩ := F.all i hi
  obtain ⟨b, hb, eb⟩ := F.all e he
  by_cases h : a ≤ b
  · refine ⟨b - a, by omega, ?_⟩
    rw [← ea, ← itf_add, show a + (b - a) = b by omega, eb]
  · refine ⟨m + 1 - a + b, by omega, ?_⟩
    rw [← ea, ← itf_add, show a + (m + 1 - a + b) = (m + 1) + b by omega, itf_add, F.back, eb]
def fullB (m : Nat) : Bool := (List.range (m + 1)).all (fun e => (List.range (m + 1)).any fun a => itf m a 0 == e) && itf m (m + 1) 0 == 0
theorem Full.of {m : Nat} (h : fullB m = true) : Full m := by
  unfold fullB at h
  rw [Bool.and_eq_true, List.all_eq_true] at h
  refine ⟨fun e he => ?_, by simpa using h.2⟩
  have := h.1 e (List.mem_range.mpr (by omega))
  rw [List.any_eq_true] at this
  obtain ⟨a, ha, e1⟩ := this
  exact ⟨a, by have := List.mem_range.mp ha; omega, by simpa using e1⟩
theorem full7 : Full 7 := Full.of (by decide +kernel)
theorem full31 : Full 31 := Full.of (by decide +kernel)
theorem full127 : Full 127 := Full.of (by decide +kernel)
theorem leap_cover {m : Nat} (F : Full m) {x : Nat × Nat} (hp : x.2 < 2 ^ 64) {e : Nat} (he : e ≤ m) : ∃ L, L < m + 14 ∧ 1 ≤ L ∧ (lp m L x).1 = e := by
  have z : (lp m 13 x).2 = 0 := by
    rw [lp_pert]
    refine Nat.div_eq_of_lt ?_
    have : (32 : Nat) ^ 13 = 2 ^ 65 := by decide
    rw [this]
    omega
  have hi : (lp m 13 x).1 ≤ m := by
    rw [show (13 : Nat) = 12 + 1 from rfl, lp_add]
    show (leap m (lp m 12 x).1 (lp m 12 x).2).1 ≤ m
    have := Nat.mod_lt ((lp m 12 x).1 * 5 + 1 + (lp m 12 x).2 / 32) (show 0 < m + 1 by omega)
    show ((lp m 12 x).1 * 5 + 1 + (lp m 12 x).2 / 32) % (m + 1) ≤ m
    omega
  obtain ⟨s, hs, es⟩ := F.go hi he
  refine ⟨13 + s, by omega, by omega, ?_⟩
  rw [lp_add, show lp m 13 x = ((lp m 13 x).1, 0) from Prod.ext rfl z, lp_zero, es]
theorem slot_cover {m : Nat} (F : Full m) {p : Probe} (hm : p.more ≤ 9) (hp : p.perturb < 2 ^ 64) {e : Nat} (he : e ≤ m) : ∃ k, k < 10 * (m + 15) ∧ (pth m k p).j = e := by
  obtain ⟨L, h1, h2, h3⟩ := leap_cover F (x := (p.i, p.perturb)) hp he
  obtain ⟨k, hk, e2⟩ := lp_visit m (L - 1) p hm
  rw [show L - 1 + 1 = L by omega] at hk e2
  refine ⟨k, by omega, ?_⟩
  rw [e2]
  exact h3
def Fine (p : Probe) : Prop := p.more ≤ 9 ∧ p.perturb < 2 ^ 64 ∧ p.dummy = none
theorem Fine.adv {m : Nat} {p : Probe} (h : Fine p) : Fine (adv m p) := by
  obtain ⟨h1, h2, h3⟩ := h
  unfold STab.adv
  split
  · exact ⟨by show p.more - 1 ≤ 9; omega, h2, h3⟩
  · refine ⟨run_len m _, ?_, h3⟩
    show p.perturb / 32 < 2 ^ 64
    exact Nat.lt_of_le_of_lt (Nat.div_le_self _ _) h2
theorem Fine.pth {m : Nat} : ∀ (k : Nat) {p : Probe}, Fine p → Fine (pth m k p)
  | 0, _, h => h
  | k + 1, _, h => Fine.pth k h.adv
def start (m : Nat) (h : Int) : Probe := stp0 m (bits h % (m + 1), bits h) none
theorem start_fine (m : Nat) (h : Int) : Fine (start m h) := by
  refine ⟨run_len m _, ?_, rfl⟩
  show bits h < 2 ^ 64
  unfold bits
  have h0 := Int.emod_nonneg h (show (2 ^ 64 : Int) ≠ 0 by decide)
  have h1 := Int.emod_lt_of_pos h (show (0 : Int) < 2 ^ 64 by decide)
  have : (2 : Int) ^ 64 = 18446744073709551616 := by decide
  have : (2 : Nat) ^ 64 = 18446744073709551616 := by decide
  omega

def Emp (t : SetTable) (j : Nat) : Prop := ∀ i : Nat, t.place[i]? ≠ some j
theorem below_at {xs : Array Nat} (srt : Srt xs) {i : Nat} (h : i < xs.size) : below xs xs[i] = i := by
  obtain ⟨b1, b2, b3⟩ := below_spec srt xs[i]
  rcases Nat.lt_trichotomy (below xs xs[i]) i with c | c | c
  · have := b3 (below xs xs[i]) (by omega) (Nat.le_refl _)
    have := srt (below xs xs[i]) i c h
    omega
  · exact c
  · have := b2 i h c
    omega
theorem slot_live {t : SetTable} {led : Bool} (T : Tb t led) {i j : Nat} (h : t.place[i]? = some j) : t.slot j = .live i := by
  obtain ⟨hi, e⟩ := Array.getElem?_eq_some_iff.mp h
  subst e
  have b := below_at T.srt hi
  unfold SetTable.slot
  simp only [b, h, beq_self_eq_true, if_true]
theorem slot_of_live {t : SetTable} {i j : Nat} (h : t.slot j = .live i) : t.place[i]? = some j := by
  unfold SetTable.slot at h
  simp only at h
  split at h
  · rename_i q
    cases h
    exact eq_of_beq q
  · split at h <;> cases h
theorem slot_emp {t : SetTable} {led : Bool} (T : Tb t led) {j : Nat} (h : Emp t j) : t.slot j = .empty := by
  cases q : t.slot j with
  | empty => rfl
  | dummy => exact absurd q (slot_nodummy T j)
  | live i => exact absurd (slot_of_live q) (h i)
theorem probe_go {t : SetTable} {led : Bool} (T : Tb t led) (f : Nat → Int) (h : Int) : ∀ (fuel k : Nat) (p : Probe), p.dummy = none → k < fuel → Emp t (pth t.mask k p).j → (∀ k' < k, ¬ Emp t (pth t.mask k' p).j) →
    (probe.go t f h fuel p = some (.empty (pth t.mask k p).j none) ∧ ∀ k' < k, ∀ i : Nat, t.place[i]? = some (pth t.mask k' p).j → f i ≠ h) ∨
    ∃ k' i : Nat, k' < k ∧ t.place[i]? = some (pth t.mask k' p).j ∧ f i = h ∧ probe.go t f h fuel p = some (.candidate (pth t.mask k' p).j i (pth t.mask (k' + 1) p)) ∧ ∀ k2 < k', ∀ i : Nat, t.place[i]? = some (pth t.mask k2 p).j → f i ≠ h
  | 0, k, p, _, hk, _, _ => absurd hk (Nat.not_lt_zero _)
  | fuel + 1, 0, p, hd, _, he, _ => by
    refine .inl ⟨?_, fun k' hk' => absurd hk' (Nat.not_lt_zero _)⟩
    unfold probe.go
    rw [slot_emp T (show Emp t p.j from he)]
    simp only [hd]
    rfl
  | fuel + 1, k + 1, p, hd, hk, he, hn => by
    have n0 : ¬ Emp t p.j := hn 0 (by omega)
    obtain ⟨i, hi⟩ : ∃ i : Nat, t.place[i]? = some p.j := by
      by_cases c : ∃ i : Nat, t.place[i]? = some p.j
      · exact c
      · exact absurd (fun i e => c ⟨i, e⟩) n0
    have hs := slot_live T hi
    have uniq : ∀ i' : Nat, t.place[i']? = some p.j → i' = i := fun i' e => by
      have := slot_live T e
      rw [hs] at this
      cases this
      rfl
    by_cases c : f i = h
    · refine .inr ⟨0, i, by omega, hi, c, ?_, fun k2 h2 => absurd h2 (Nat.not_lt_zero _)⟩
      unfold probe.go
      rw [hs]
      simp only [c, beq_self_eq_true, if_true]
      rfl
    · have step : probe.go t f h (fuel + 1) p = probe.go t f h fuel (adv t.mask p) := by
        rw [probe.go, hs]
        have : (f i == h) = false := by simpa using c
        simp only [this, Bool.false_eq_true, if_false]
        rfl
      have ih := probe_go T f h fuel k (adv t.mask p) ((adv_dummy _ p).trans hd) (by omega) he fun k' hk' => hn (k' + 1) (by omega)
      rw [step]
      rcases ih with ⟨e1, e2⟩ | ⟨k', i', g1, g2, g3, g4, g5⟩
      · refine .inl ⟨e1, fun k' hk' i2 h2 => ?_⟩
        cases k' with
        | zero => rw [uniq i2 h2]; exact c
        | succ k'' => exact e2 k'' (by omega) i2 h2
      · refine .inr ⟨k' + 1, i', by omega, g2, g3, g4, fun k2 h2 i2 h3 => ?_⟩
        cases k2 with
        | zero => rw [uniq i2 h3]; exact c
        | succ k'' => exact g5 k'' (by omega) i2 h3
theorem first_emp {t : SetTable} (F : Full t.mask) {p : Probe} (hp : Fine p) (he : ∃ e, e ≤ t.mask ∧ Emp t e) : ∃ k, k < 10 * turns t.mask ∧ Emp t (pth t.mask k p).j ∧ ∀ k' < k, ¬ Emp t (pth t.mask k' p).j := by
  obtain ⟨e, h1, h2⟩ := he
  obtain ⟨k, hk, e1⟩ := slot_cover F hp.1 hp.2.1 h1
  have ex : ∃ k, Emp t (pth t.mask k p).j := ⟨k, by rw [e1]; exact h2⟩
  have : ∀ n, (∃ k ≤ n, Emp t (pth t.mask k p).j) → ∃ k ≤ n, Emp t (pth t.mask k p).j ∧ ∀ k' < k, ¬ Emp t (pth t.mask k' p).j := by
    intro n
    induction n with
    | zero =>
      rintro ⟨k, hk, h⟩
      have : k = 0 := by omega
      subst this
      exact ⟨0, Nat.le_refl _, h, fun k' h' => absurd h' (Nat.not_lt_zero _)⟩
    | succ n ih =>
      rintro ⟨k, hk, h⟩
      by_cases c : ∃ k ≤ n, Emp t (pth t.mask k p).j
      · obtain ⟨k0, a, b⟩ := ih c
        exact ⟨k0, by omega, b⟩
      · by_cases e : k = n + 1
        · subst e
          exact ⟨n + 1, Nat.le_refl _, h, fun k' h' q => c ⟨k', by omega, q⟩⟩
        · exact absurd ⟨k, by omega, h⟩ c
  obtain ⟨k0, a, b⟩ := this k ⟨k, Nat.le_refl _, by rw [e1]; exact h2⟩
  refine ⟨k0, ?_, b⟩
  show k0 < 10 * (t.mask + 15)
  omega
theorem nodup_lenN : ∀ {a b : List Nat}, a.Nodup → (∀ x ∈ a, x ∈ b) → a.length ≤ b.length
  | [], _, _, _ => Nat.zero_le _
  | x :: a, b, d, h => by
    rw [List.nodup_cons] at d
    have hx := h x (List.mem_cons_self ..)
    have ih : a.length ≤ (b.erase x).length := nodup_lenN d.2 fun y hy => by
      have hy' := h y (List.mem_cons_of_mem _ hy)
      exact (List.mem_erase_of_ne (fun e => d.1 (by rw [← e]; exact hy))).mpr hy'
    rw [List.length_erase_of_mem hx] at ih
    have := List.length_pos_of_mem hx
    rw [List.length_cons]
    omega
theorem emp_there {t : SetTable} (h : t.place.size ≤ t.mask) : ∃ e, e ≤ t.mask ∧ Emp t e := by
  by_cases c : ∃ e, e ≤ t.mask ∧ Emp t e
  · exact c
  · exfalso
    have all : ∀ e, e ≤ t.mask → ∃ i : Nat, t.place[i]? = some e := fun e he => by
      by_cases q : ∃ i : Nat, t.place[i]? = some e
      · exact q
      · exact absurd ⟨e, he, fun i hi => q ⟨i, hi⟩⟩ c
    have : (List.range (t.mask + 1)).length ≤ t.place.toList.length := by
      refine nodup_lenN List.nodup_range fun e he => ?_
      obtain ⟨i, hi⟩ := all e (by have := List.mem_range.mp he; omega)
      rw [← Array.getElem?_toList] at hi
      exact List.mem_of_getElem? hi
    simp at this
    omega
end STab
namespace STab
open PySem PySem.SetTable

def OnP (t : SetTable) (j : Nat) (h : Int) : Prop := ∃ k, (pth t.mask k (start t.mask h)).j = j ∧ ∀ k' < k, ¬ Emp t (pth t.mask k' (start t.mask h)).j
def Wel (t : SetTable) (es : Array (Int × Value)) : Prop := ∀ u ∈ t.place.toList.zip es.toList, OnP t u.1 u.2.1
theorem ins_list {α : Type} (xs : Array α) (p : Nat) (x : α) : (insertAt xs p x).toList = xs.toList.take p ++ x :: xs.toList.drop p := by
  unfold insertAt
  simp [List.take_of_length_le]
theorem zip_ins {α β : Type} : ∀ (p : Nat) (a : List α) (b : List β) (x : α) (y : β), a.length = b.length → ∀ u ∈ (a.take p ++ x :: a.drop p).zip (b.take p ++ y :: b.drop p), u = (x, y) ∨ u ∈ a.zip b
  | 0, a, b, x, y, h, u, hu => by
    simp at hu
    rcases hu with e | e
    · exact .inl e
    · exact .inr e
  | p + 1, [], [], x, y, h, u, hu => by simp at hu; exact .inl hu
  | p + 1, [], _ :: _, x, y, h, u, hu => by simp at h
  | p + 1, _ :: _, [], x, y, h, u, hu => by simp at h
  | p + 1, a0 :: a, b0 :: b, x, y, h, u, hu => by
    simp only [List.take_succ_cons, List.drop_succ_cons, List.cons_append, List.zip_cons_cons, List.mem_cons] at hu
    rcases hu with e | e
    · exact .inr (by rw [List.zip_cons_cons, e]; exact List.mem_cons_self ..)
    · rcases zip_ins p a b x y (by simpa using h) u e with e | e
      · exact .inl e
      · exact .inr (by rw [List.zip_cons_cons]; exact List.mem_cons_of_mem _ e)
theorem mem_ins {α : Type} {xs : Array α} {p : Nat} {x y : α} (hp : p ≤ xs.size) : y ∈ (insertAt xs p x).toList ↔ y = x ∨ y ∈ xs.toList := by
  rw [ins_list, List.mem_append, List.mem_cons]
  constructor
  · rintro (h | h | h)
    · exact .inr (List.mem_of_mem_take h)
    · exact .inl h
    · exact .inr (List.mem_of_mem_drop h)
  · rintro (h | h)
    · exact .inr (.inl h)
    · rw [← List.take_append_drop p xs.toList, List.mem_append] at h
      rcases h with h | h
      · exact .inl h
      · exact .inr (.inr h)
theorem emp_iff {t : SetTable} {j : Nat} : Emp t j ↔ j ∉ t.place.toList := by
  constructor
  · intro h hm
    obtain ⟨i, hi⟩ := List.mem_iff_getElem?.mp hm
    exact h i (by rw [← Array.getElem?_toList]; exact hi)
  · intro h i e
    rw [← Array.getElem?_toList] at e
    exact h (List.mem_of_getElem? e)
theorem Wel.put {t : SetTable} {led : Bool} (T : Tb t led) {es : Array (Int × Value)} (hsz : t.place.size = es.size) (W : Wel t es) {h : Int} {x : Value} {k : Nat} (he : Emp t (pth t.mask k (start t.mask h)).j)
    (hb : ∀ k' < k, ¬ Emp t (pth t.mask k' (start t.mask h)).j) : Wel (t.put (pth t.mask k (start t.mask h)).j).1 (insertAt es (t.put (pth t.mask k (start t.mask h)).j).2 (h, x)) := by
  generalize hj : (pth t.mask k (start t.mask h)).j = j at he
  have hp : below t.place j ≤ t.place.size := (below_spec T.srt j).1
  have more : ∀ e, ¬ Emp t e → ¬ Emp (t.put j).1 e := fun e n q => n (by
    rw [emp_iff] at q ⊢
    intro z
    exact q ((mem_ins hp).mpr (.inr z)))
  intro u hu
  have hu' : u ∈ (t.place.toList.take (below t.place j) ++ j :: t.place.toList.drop (below t.place j)).zip (es.toList.take (below t.place j) ++ (h, x) :: es.toList.drop (below t.place j)) := by
    have := hu
    rw [show (t.put j).1.place.toList = t.place.toList.take (below t.place j) ++ j :: t.place.toList.drop (below t.place j) from ins_list _ _ _, show (insertAt es (t.put j).2 (h, x)).toList = es.toList.take (below t.place j) ++ (h, x) :: es.toList.drop (below t.place j) from ins_list _ _ _] at this
    exact this
  rcases zip_ins _ _ _ j (h, x) (by simpa using hsz) u hu' with e | e
  · subst e
    exact ⟨k, hj, fun k' hk' => more _ (hb k' hk')⟩
  · obtain ⟨k2, e2, b2⟩ := W u e
    exact ⟨k2, e2, fun k' hk' => more _ (b2 k' hk')⟩
theorem Wel.ahead {t : SetTable} {es : Array (Int × Value)} (hsz : t.place.size = es.size) (W : Wel t es) {i : Nat} {h : Int} {x : Value} (hi : es[i]? = some (h, x)) {k : Nat} (he : Emp t (pth t.mask k (start t.mask h)).j) :
    ∃ k2 < k, t.place[i]? = some (pth t.mask k2 (start t.mask h)).j := by
  obtain ⟨hl, _⟩ := Array.getElem?_eq_some_iff.mp hi
  have hp : t.place[i]? = some (t.place[i]'(by omega)) := Array.getElem?_eq_getElem _
  have hm : ((t.place[i]'(by omega)), (h, x)) ∈ t.place.toList.zip es.toList := by
    refine List.mem_of_getElem? (i := i) ?_
    rw [List.getElem?_zip_eq_some]
    exact ⟨by rw [Array.getElem?_toList]; exact hp, by rw [Array.getElem?_toList]; exact hi⟩
  obtain ⟨k2, e2, b2⟩ := W _ hm
  have e2 : (pth t.mask k2 (start t.mask h)).j = t.place[i]'(by omega) := e2
  refine ⟨k2, ?_, by rw [e2]; exact hp⟩
  rcases Nat.lt_trichotomy k2 k with c | c | c
  · exact c
  · subst c
    rw [e2] at he
    exact absurd hp (he i)
  · exact absurd he (b2 k c)

def InB (m : Nat) (p : Probe) : Prop := p.j + p.more ≤ m
theorem runEnd_le {m i : Nat} (h : i ≤ m) : i + (runEnd m i - i) ≤ m := by unfold runEnd; split <;> omega
theorem InB.adv {m : Nat} {p : Probe} (h : InB m p) : InB m (adv m p) := by
  unfold STab.adv
  split
  · show p.j + 1 + (p.more - 1) ≤ m
    have : p.j + p.more ≤ m := h
    omega
  · have : (leap m p.i p.perturb).1 ≤ m := by
      have := Nat.mod_lt (p.i * 5 + 1 + p.perturb / 32) (show 0 < m + 1 by omega)
      show (p.i * 5 + 1 + p.perturb / 32) % (m + 1) ≤ m
      omega
    exact runEnd_le this
theorem InB.pth {m : Nat} : ∀ (k : Nat) {p : Probe}, InB m p → InB m (pth m k p)
  | 0, _, h => h
  | k + 1, _, h => InB.pth k h.adv
theorem InB.j {m : Nat} {p : Probe} (h : InB m p) : p.j ≤ m := by unfold InB at h; omega
theorem start_inb (m : Nat) (h : Int) : InB m (start m h) := by
  have : bits h % (m + 1) ≤ m := by have := Nat.mod_lt (bits h) (show 0 < m + 1 by omega); omega
  exact runEnd_le this
theorem run_j (m : Nat) : ∀ (k : Nat) (p : Probe), k ≤ p.more → (pth m k p).j = p.j + k
  | 0, p, _ => rfl
  | k + 1, p, h => by
    show (pth m k (adv m p)).j = _
    have e : adv m p = { p with j := p.j + 1, more := p.more - 1 } := by unfold adv; rw [if_pos (by omega)]
    rw [e, run_j m k _ (by show k ≤ p.more - 1; omega)]
    show p.j + 1 + k = p.j + (k + 1)
    omega
def fr (owner : Array (Option Nat)) (j : Nat) : Bool := (owner.getD j (some 0)).isNone
theorem free_unf (m : Nat) (owner : Array (Option Nat)) (f i pt : Nat) : layClean.free m owner (f + 1) i pt = match (List.range (runEnd m i + 1 - i)).find? fun k => fr owner (i + k) with
    | some k => some (i + k)
    | none => layClean.free m owner f (leap m i pt).1 (leap m i pt).2 := rfl
theorem runEnd_ge (m i : Nat) : i ≤ runEnd m i := by unfold runEnd; split <;> omega
theorem free_some (m : Nat) (owner : Array (Option Nat)) : ∀ (f i pt j : Nat), layClean.free m owner f i pt = some j → ∃ c, (pth m c (stp0 m (i, pt) none)).j = j ∧ fr owner j = true ∧ ∀ c' < c, fr owner (pth m c' (stp0 m (i, pt) none)).j = false
  | 0, i, pt, j, h => by unfold layClean.free at h; cases h
  | f + 1, i, pt, j, h => by
    have ge := runEnd_ge m i
    rw [free_unf] at h
    cases q : (List.range (runEnd m i + 1 - i)).find? fun k => fr owner (i + k) with
    | some k =>
      rw [q] at h
      have h : i + k = j := Option.some.inj h
      subst h
      obtain ⟨q1, q2⟩ := List.find?_range_eq_some.mp q
      obtain ⟨q2, q3⟩ := q2
      have hk : k ≤ (stp0 m (i, pt) none).more := by
        have := List.mem_range.mp q2
        show k ≤ runEnd m i - i
        omega
      refine ⟨k, run_j m k _ hk, q1, fun c' hc' => ?_⟩
      rw [run_j m c' _ (Nat.le_trans (Nat.le_of_lt hc') hk)]
      have := q3 c' hc'
      show fr owner (i + c') = false
      simpa using this
    | none =>
      rw [q] at h
      have all := List.find?_eq_none.mp q
      obtain ⟨c, e1, e2, e3⟩ := free_some m owner f _ _ j h
      have re := run_end (stp0 m (i, pt) none).more m (stp0 m (i, pt) none) rfl
      refine ⟨(stp0 m (i, pt) none).more + 1 + c, by rw [pth_add, re]; exact e1, e2, fun c' hc' => ?_⟩
      by_cases hc : c' ≤ (stp0 m (i, pt) none).more
      · rw [run_j m c' _ hc]
        have := all c' (List.mem_range.mpr (by have : c' ≤ runEnd m i - i := hc; omega))
        show fr owner (i + c') = false
        simpa using this
      · rw [show c' = (stp0 m (i, pt) none).more + 1 + (c' - ((stp0 m (i, pt) none).more + 1)) by omega, pth_add, re]
        exact e3 _ (by omega)
theorem free_none (m : Nat) (owner : Array (Option Nat)) : ∀ (f i pt : Nat), layClean.free m owner f i pt = none → ∀ L < f, fr owner (lp m L (i, pt)).1 = false
  | 0, i, pt, h, L, hL => absurd hL (Nat.not_lt_zero _)
  | f + 1, i, pt, h, L, hL => by
    have ge := runEnd_ge m i
    rw [free_unf] at h
    cases q : (List.range (runEnd m i + 1 - i)).find? fun k => fr owner (i + k) with
    | some k => rw [q] at h; cases h
    | none =>
      rw [q] at h
      cases L with
      | zero =>
        have := List.find?_eq_none.mp q 0 (List.mem_range.mpr (by omega))
        show fr owner i = false
        simpa using this
      | succ L => exact free_none m owner f _ _ h L (by omega)
structure Own (m : Nat) (hs : List Int) (owner : Array (Option Nat)) : Prop where
  sz : owner.size = m + 1
  way : ∀ (j k : Nat), owner[j]? = some (some k) → ∃ h, hs[k]? = some h ∧ ∃ c, (pth m c (start m h)).j = j ∧ ∀ c' < c, ∃ k' : Nat, owner[(pth m c' (start m h)).j]? = some (some k')
  one : ∀ (i j k : Nat), owner[i]? = some (some k) → owner[j]? = some (some k) → i = j
  all : ∀ k, k < hs.length → ∃ j : Nat, owner[j]? = some (some k)
theorem own_nil (m : Nat) : Own m [] (Array.replicate (m + 1) none) where
  sz := by simp
  way := fun j k h => by
    rw [Array.getElem?_replicate] at h
    split at h <;> cases h
  one := fun i j k h => by
    rw [Array.getElem?_replicate] at h
    split at h <;> cases h
  all := fun k h => absurd h (Nat.not_lt_zero _)
theorem fr_false {owner : Array (Option Nat)} {j : Nat} (h : fr owner j = false) (hj : j < owner.size) : ∃ k : Nat, owner[j]? = some (some k) := by
  unfold fr at h
  have e : owner.getD j (some 0) = owner[j] := by simp [Array.getD, hj]
  rw [e] at h
  cases q : owner[j] with
  | none => rw [q] at h; cases h
  | some k => exact ⟨k, by rw [Array.getElem?_eq_getElem hj, q]⟩
theorem fr_true {owner : Array (Option Nat)} {j : Nat} (h : fr owner j = true) : owner[j]? = some none := by
  unfold fr at h
  by_cases hj : j < owner.size
  · have e : owner.getD j (some 0) = owner[j] := by simp [Array.getD, hj]
    rw [e] at h
    cases q : owner[j] with
    | none => rw [Array.getElem?_eq_getElem hj, q]
    | some k => rw [q] at h; cases h
  · simp [Array.getD, hj] at h
theorem own_room {m : Nat} {hs : List Int} {owner : Array (Option Nat)} (O : Own m hs owner) (hn : hs.length ≤ m) : ∃ e, e ≤ m ∧ fr owner e = true := by
  by_cases c : ∃ e, e ≤ m ∧ fr owner e = true
  · exact c
  · exfalso
    have all : ∀ e, e ≤ m → ∃ k : Nat, owner[e]? = some (some k) := fun e he => by
      refine fr_false ?_ (by rw [O.sz]; omega)
      cases q : fr owner e with
      | false => rfl
      | true => exact absurd ⟨e, he, q⟩ c
    -- m + 1 slots, each with a hash of its own
    have pick : ∀ n, n ≤ m + 1 → ∃ ks : List Nat, ks.length = n ∧ ks.Nodup ∧ ∀ k ∈ ks, k < hs.length ∧ ∃ e < n, owner[e]? = some (some k) := by
      intro n
      induction n with
      | zero => exact fun _ => ⟨[], rfl, List.nodup_nil, fun k hk => by cases hk⟩
      | succ n ih =>
        intro hn1
        obtain ⟨ks, h1, h2, h3⟩ := ih (by omega)
        obtain ⟨k, hk⟩ := all n (by omega)
        obtain ⟨h, hh, _⟩ := O.way n k hk
        refine ⟨k :: ks, by rw [List.length_cons, h1], List.nodup_cons.mpr ⟨fun z => ?_, h2⟩, fun k' hk' => ?_⟩
        · obtain ⟨_, e, he, q⟩ := h3 k z
          have := O.one n e k hk q
          omega
        · rcases List.mem_cons.mp hk' with z | z
          · subst z
            exact ⟨(List.getElem?_eq_some_iff.mp hh).1, n, by omega, hk⟩
          · obtain ⟨a, e, he, q⟩ := h3 k' z
            exact ⟨a, e, by omega, q⟩
    obtain ⟨ks, h1, h2, h3⟩ := pick (m + 1) (Nat.le_refl _)
    have := nodup_lenN h2 (b := List.range hs.length) fun k hk => List.mem_range.mpr (h3 k hk).1
    rw [List.length_range] at this
    omega
theorem own_step {m : Nat} (F : Full m) {hs : List Int} {owner : Array (Option Nat)} (O : Own m hs owner) (hn : hs.length ≤ m) (h : Int) :
    ∃ j, layClean.free m owner (turns m) (bits h % (m + 1)) (bits h) = some j ∧ Own m (hs ++ [h]) (owner.setIfInBounds j (some hs.length)) := by
  have hb : bits h < 2 ^ 64 := (start_fine m h).2.1
  cases q : layClean.free m owner (turns m) (bits h % (m + 1)) (bits h) with
  | none =>
    exfalso
    obtain ⟨e, he, fe⟩ := own_room O hn
    obtain ⟨L, l1, l2, l3⟩ := leap_cover F (x := (bits h % (m + 1), bits h)) hb he
    have := free_none m owner _ _ _ q L (by show L < m + 15; omega)
    rw [l3, fe] at this
    cases this
  | some j =>
    obtain ⟨c, e1, e2, e3⟩ := free_some m owner _ _ _ j q
    have hj := fr_true e2
    obtain ⟨jlt, _⟩ := Array.getElem?_eq_some_iff.mp hj
    have get : ∀ i : Nat, (owner.setIfInBounds j (some hs.length))[i]? = if i = j then some (some hs.length) else owner[i]? := fun i => by
      rw [Array.getElem?_setIfInBounds]
      by_cases z : i = j
      · subst z; simp [jlt]
      · rw [if_neg (Ne.symm z), if_neg z]
    have keep : ∀ i : Nat, (∃ k : Nat, owner[i]? = some (some k)) → ∃ k : Nat, (owner.setIfInBounds j (some hs.length))[i]? = some (some k) := fun i ⟨k, hk⟩ => by
      rw [get]
      by_cases z : i = j
      · rw [if_pos z]; exact ⟨_, rfl⟩
      · rw [if_neg z]; exact ⟨k, hk⟩
    refine ⟨j, rfl, ⟨by rw [Array.size_setIfInBounds]; exact O.sz, fun i k hk => ?_, fun i i2 k h1 h2 => ?_, fun k hk => ?_⟩⟩
    · rw [get] at hk
      by_cases z : i = j
      · rw [if_pos z] at hk
        have ek : k = hs.length := by cases hk; rfl
        subst z; subst ek
        refine ⟨h, by simp, c, e1, fun c' hc' => keep _ ?_⟩
        refine fr_false (e3 c' hc') ?_
        rw [O.sz]
        have := (InB.pth c' (start_inb m h)).j
        show (pth m c' (start m h)).j < m + 1
        omega
      · rw [if_neg z] at hk
        obtain ⟨h', a, c2, b1, b2⟩ := O.way i k hk
        exact ⟨h', by rw [List.getElem?_append_left (List.getElem?_eq_some_iff.mp a).1]; exact a, c2, b1, fun c' hc' => keep _ (b2 c' hc')⟩
    · rw [get] at h1 h2
      have old : ∀ i : Nat, owner[i]? ≠ some (some hs.length) := fun i e => by
        obtain ⟨h', a, _⟩ := O.way i _ e
        exact absurd (List.getElem?_eq_some_iff.mp a).1 (Nat.lt_irrefl _)
      by_cases z1 : i = j
      · by_cases z2 : i2 = j
        · rw [z1, z2]
        · rw [if_pos z1] at h1
          rw [if_neg z2] at h2
          have ek : k = hs.length := by cases h1; rfl
          subst ek
          exact absurd h2 (old i2)
      · by_cases z2 : i2 = j
        · rw [if_neg z1] at h1
          rw [if_pos z2] at h2
          have ek : k = hs.length := by cases h2; rfl
          subst ek
          exact absurd h1 (old i)
        · rw [if_neg z1] at h1
          rw [if_neg z2] at h2
          exact O.one i i2 k h1 h2
    · rw [List.length_append, List.length_singleton] at hk
      by_cases z : k = hs.length
      · exact ⟨j, by rw [get, if_pos rfl, z]⟩
      · obtain ⟨i, hi⟩ := O.all k (by omega)
        have : i ≠ j := fun e => by rw [e, hj] at hi; cases hi
        exact ⟨i, by rw [get, if_neg this]; exact hi⟩
theorem lay_list {m : Nat} (F : Full m) : ∀ (rest hs : List Int) (owner : Array (Option Nat)), Own m hs owner → hs.length + rest.length ≤ m + 1 → ∃ owner', rest.foldl (fun (acc : Option (Array (Option Nat) × Nat)) h => do
      let (owner, k) ← acc
      let j ← layClean.free m owner (turns m) (bits h % (m + 1)) (bits h)
      pure (owner.setIfInBounds j (some k), k + 1)) (some (owner, hs.length)) = some (owner', hs.length + rest.length) ∧ Own m (hs ++ rest) owner'
  | [], hs, owner, O, _ => ⟨owner, rfl, by rw [List.append_nil]; exact O⟩
  | h :: rest, hs, owner, O, hn => by
    rw [List.length_cons] at hn
    obtain ⟨j, e1, O1⟩ := own_step F O (by omega) h
    obtain ⟨owner', e2, O2⟩ := lay_list F rest (hs ++ [h]) _ O1 (by rw [List.length_append, List.length_singleton]; omega)
    refine ⟨owner', ?_, by rw [List.append_assoc] at O2; exact O2⟩
    rw [List.foldl_cons]
    have s1 : (do
      let (owner, k) ← (some (owner, hs.length) : Option (Array (Option Nat) × Nat))
      let j ← layClean.free m owner (turns m) (bits h % (m + 1)) (bits h)
      pure (owner.setIfInBounds j (some k), k + 1)) = some (owner.setIfInBounds j (some hs.length), (hs ++ [h]).length) := by
      show (layClean.free m owner (turns m) (bits h % (m + 1)) (bits h)).bind (fun j => some (owner.setIfInBounds j (some hs.length), hs.length + 1)) = _
      rw [e1, List.length_append, List.length_singleton]
      rfl
    rw [s1, e2, List.length_append, List.length_singleton, List.length_cons]
    congr 2
    omega
theorem lay_ok {m : Nat} (F : Full m) (hs : Array Int) (hn : hs.size ≤ m + 1) : ∃ owner, layClean m hs = some owner ∧ Own m hs.toList owner := by
  obtain ⟨owner, e, O⟩ := lay_list F hs.toList [] _ (own_nil m) (by simpa using hn)
  refine ⟨owner, ?_, by simpa using O⟩
  unfold layClean
  rw [← Array.foldl_toList]
  have e' : (hs.toList.foldl (fun (acc : Option (Array (Option Nat) × Nat)) h => do
      let (owner, k) ← acc
      let j ← layClean.free m owner (turns m) (bits h % (m + 1)) (bits h)
      pure (owner.setIfInBounds j (some k), k + 1)) (some (Array.replicate (m + 1) none, 0))) = some (owner, 0 + hs.toList.length) := by
    have := e
    rw [List.length_nil] at this
    exact this
  rw [e']
  rfl
end STab
namespace STab
open PySem PySem.SetTable

def liveL (m : Nat) (owner : Array (Option Nat)) : List (Nat × Nat) := (List.range (m + 1)).filterMap fun j => (owner.getD j none).map (j, ·)
theorem live_mem {m : Nat} {owner : Array (Option Nat)} (hsz : owner.size = m + 1) {u : Nat × Nat} : u ∈ liveL m owner ↔ owner[u.1]? = some (some u.2) := by
  unfold liveL
  rw [List.mem_filterMap]
  constructor
  · rintro ⟨j, hj, e⟩
    have hj' : j < owner.size := by rw [hsz]; exact List.mem_range.mp hj
    have e0 : owner.getD j none = owner[j] := by simp [Array.getD, hj']
    rw [e0] at e
    cases q : owner[j] with
    | none => rw [q] at e; cases e
    | some k =>
      rw [q] at e
      have e : (j, k) = u := Option.some.inj e
      subst e
      rw [Array.getElem?_eq_getElem hj', q]
  · intro h
    obtain ⟨hl, e⟩ := Array.getElem?_eq_some_iff.mp h
    refine ⟨u.1, List.mem_range.mpr (by omega), ?_⟩
    have e0 : owner.getD u.1 none = owner[u.1] := by simp [Array.getD, hl]
    rw [e0, e]
    rfl
theorem live_pw (m : Nat) (owner : Array (Option Nat)) : ((liveL m owner).map (·.1)).Pairwise (· < ·) := by
  have z := srt_filterMap (fun j => owner.getD j none) 0 (m + 1)
  rw [← List.range_eq_range'] at z
  exact z
theorem range_filterMap {α : Type} (es : Array α) : (List.range es.size).filterMap (es[·]?) = es.toList := by
  have : ∀ l : List α, (List.range l.length).filterMap (fun i => l[i]?) = l := by
    intro l
    induction l with
    | nil => rfl
    | cons x l ih =>
      rw [List.length_cons, List.range_succ_eq_map, List.filterMap_cons, List.filterMap_map]
      show x :: _ = x :: l
      congr 1
  have h := this es.toList
  rw [Array.length_toList] at h
  refine Eq.trans ?_ h
  congr 1
  funext i
  rw [Array.getElem?_toList]
theorem zip_filterMap {α : Type} (g : Nat → Option α) : ∀ (l : List (Nat × Nat)), (∀ u ∈ l, ∃ y, g u.2 = some y) → ∀ v ∈ (l.map (·.1)).zip ((l.map (·.2)).filterMap g), ∃ u ∈ l, v.1 = u.1 ∧ g u.2 = some v.2
  | [], _, v, hv => by simp at hv
  | u :: l, h, v, hv => by
    obtain ⟨y, hy⟩ := h u (List.mem_cons_self ..)
    rw [List.map_cons, List.map_cons, List.filterMap_cons_some hy, List.zip_cons_cons, List.mem_cons] at hv
    rcases hv with e | e
    · subst e
      exact ⟨u, List.mem_cons_self .., rfl, hy⟩
    · obtain ⟨u', hu', a, b⟩ := zip_filterMap g l (fun u hu => h u (List.mem_cons_of_mem _ hu)) v e
      exact ⟨u', List.mem_cons_of_mem _ hu', a, b⟩
theorem relaid_ok {t : SetTable} {led : Bool} (T : Tb t led) (es : Array (Int × Value)) (w m : Nat) (hm : sizeAbove w - 1 = m) (F : Full m) (hn : es.size ≤ m) :
    ∃ t' order, t.relaid (es.map (·.1)) w = some (t', order) ∧ (order.filterMap (es[·]?)).size = es.size ∧ (order.filterMap (es[·]?)).toList.Perm es.toList ∧ t'.mask = m ∧ t'.place.size = es.size ∧ Tb t' led ∧ Wel t' (order.filterMap (es[·]?)) := by
  obtain ⟨owner, eo, O⟩ := lay_ok F (es.map (·.1)) (by rw [Array.size_map]; omega)
  have hl : (es.map (·.1)).toList.length = es.size := by simp
  have lm := @live_mem m owner O.sz
  have inj : ((liveL m owner).map (·.2)).Nodup := by
    unfold List.Nodup
    rw [List.pairwise_map]
    have p := live_pw m owner
    rw [List.pairwise_map] at p
    refine p.imp_of_mem fun {u v} hu hv lt e => ?_
    have a := lm.mp hu
    have b := lm.mp hv
    rw [← e] at b
    have := O.one _ _ _ a b
    omega
  have pm : ((liveL m owner).map (·.2)).Perm (List.range es.size) := by
    refine (List.perm_ext_iff_of_nodup inj List.nodup_range).mpr fun k => ?_
    rw [List.mem_map, List.mem_range]
    constructor
    · rintro ⟨u, hu, rfl⟩
      obtain ⟨h, hh, _⟩ := O.way _ _ (lm.mp hu)
      have := (List.getElem?_eq_some_iff.mp hh).1
      omega
    · intro hk
      obtain ⟨j, hj⟩ := O.all k (by omega)
      exact ⟨(j, k), lm.mpr hj, rfl⟩
  have pe : (((liveL m owner).map (·.2)).filterMap (es[·]?)).Perm es.toList := by
    have := pm.filterMap (es[·]?)
    rw [range_filterMap] at this
    exact this
  have el : (((liveL m owner).map (·.2)).toArray.filterMap (es[·]?)).toList = ((liveL m owner).map (·.2)).filterMap (es[·]?) := by simp
  refine ⟨{ mask := m, place := ((liveL m owner).map (·.1)).toArray, dummies := #[], finger := t.finger, led := t.led, moves := t.movedTo m, plain := t.plain }, ((liveL m owner).map (·.2)).toArray, ?_, ?_, ?_, rfl, ?_, ⟨rfl, srt_of_list (live_pw m owner), T.ld⟩, ?_⟩
  · unfold SetTable.relaid SetTable.laid
    rw [hm, eo]
    rfl
  · rw [← Array.length_toList, el, pe.length_eq, Array.length_toList]
  · rw [el]; exact pe
  · show ((liveL m owner).map (·.1)).toArray.size = es.size
    rw [List.size_toArray, List.length_map, ← List.length_map (f := (·.2)), pm.length_eq, List.length_range]
  · intro v hv
    rw [el] at hv
    have hv : v ∈ ((liveL m owner).map (·.1)).zip (((liveL m owner).map (·.2)).filterMap (es[·]?)) := hv
    have some_ : ∀ u ∈ liveL m owner, ∃ y, es[u.2]? = some y := fun u hu => by
      obtain ⟨h, hh, _⟩ := O.way _ _ (lm.mp hu)
      have := (List.getElem?_eq_some_iff.mp hh).1
      exact ⟨es[u.2]'(by omega), Array.getElem?_eq_getElem _⟩
    obtain ⟨u, hu, e1, e2⟩ := zip_filterMap (es[·]?) _ some_ v hv
    obtain ⟨h, hh, c, d1, d2⟩ := O.way _ _ (lm.mp hu)
    have eh : v.2.1 = h := by
      rw [Array.toList_map, List.getElem?_map, Array.getElem?_toList, e2] at hh
      exact Option.some.inj hh
    refine ⟨c, by rw [e1, eh]; exact d1, fun c' hc' q => ?_⟩
    rw [eh] at q
    obtain ⟨k', hk'⟩ := d2 c' hc'
    rw [emp_iff] at q
    exact q (show _ ∈ ((liveL m owner).map (·.1)).toArray.toList by
      simp only [List.mem_map]
      exact ⟨(_, k'), lm.mpr hk', rfl⟩)
def Siz (t : SetTable) (n : Nat) : Prop := (t.mask = 7 ∧ n < 5) ∨ (t.mask = 31 ∧ n < 19) ∨ (t.mask = 127 ∧ n < 77)
theorem Siz.full {t : SetTable} {n : Nat} (h : Siz t n) : Full t.mask := by
  rcases h with ⟨e, _⟩ | ⟨e, _⟩ | ⟨e, _⟩
  · rw [e]; exact full7
  · rw [e]; exact full31
  · rw [e]; exact full127
theorem Siz.odd {t : SetTable} {n : Nat} (h : Siz t n) : t.gaveWay = false := by
  unfold SetTable.gaveWay
  rcases h with ⟨e, _⟩ | ⟨e, _⟩ | ⟨e, _⟩ <;> rw [e] <;> rfl
theorem Siz.le {t : SetTable} {n : Nat} (h : Siz t n) : n + 1 ≤ t.mask := by
  rcases h with ⟨e, _⟩ | ⟨e, _⟩ | ⟨e, _⟩ <;> rw [e] <;> omega
end STab
namespace STab
open PySem PySem.SetTable PyProof.Rows

section
variable {prog : Program} {w : World} {A : Around} {E : Value → Shared → Prop} {s : Shared}
abbrev TK (prog : Program) (w : World) (h : Heap) (k : List Int) (b : Addr) : Prop := IsTupleKey (intKind prog w) h k b
abbrev tH (prog : Program) (w : World) (k : List Int) : Int := tupleKeyHash (intKind prog w) k
theorem items_ints {k : List Int} {vs : List Value} (h : ItemsAre (intKind prog w) k vs) : ∀ v ∈ vs, ∃ i t, v = Value.int i t := by
  induction h with
  | nil => exact fun v hv => by cases hv
  | @cons k v ks vs h1 _ ih =>
    intro v' hv'
    rcases List.mem_cons.mp hv' with e | e
    · subst e
      obtain ⟨t, e⟩ := Value.isInt_shape (k := k) (v := v') h1
      exact ⟨k, t, e⟩
    · exact ih v' e
theorem hashBy_tup {k : List Int} {b : Addr} {Q : Bool → Shared → Prop} (hk : TK prog w s.heap k b) (h : Q true s) : wpAny (model prog w) A (hashByValue 8 (.ref b)) Q E s := by
  have hT := hk.typeIs
  obtain ⟨o, items, n, ho, _, hd, hi⟩ := hk
  have allI := items_ints hi
  unfold hashByValue
  refine wpAny_bind (wpAny_specialOf hT F.slot_tuple_hash.lookup ?_)
  refine wpAny_bind (wpAny_seqItems ho hd ?_)
  refine wpAny_bind ?_
  show wpAny _ _ (forIn items _ _) _ _ s
  rw [← Array.forIn_toList]
  refine wpAny_forIn_list _ (fun rest r s' => r.1 = none ∧ s' = s ∧ ∀ v ∈ rest, ∃ i t, v = Value.int i t) _ ?_ ?_ _ _ ⟨rfl, rfl, allI⟩
  · rintro v rest r s' ⟨hr, rfl, hall⟩
    obtain ⟨i, t, rfl⟩ := hall v List.mem_cons_self
    refine wpAny_bind (wpAny_pure (show wpAny _ _ _ _ _ _ from ?_))
    simp only [Bool.not_true, Bool.false_eq_true, if_false]
    exact wpAny_pure ⟨rfl, rfl, fun u hu' => hall u (List.mem_cons_of_mem _ hu')⟩
  · rintro ⟨r1, r2⟩ s' ⟨hr, rfl, _⟩
    simp only at hr
    subst hr
    exact wpAny_pure h
theorem class_tup {k : List Int} {b : Addr} {Q : Bool → Shared → Prop} (hk : TK prog w s.heap k b) (h : Q false s) : wpAny (model prog w) A (ofAClassStatement 8 (.ref b)) Q E s := by
  have hT := hk.typeIs
  obtain ⟨o, items, n, ho, _, hd, hi⟩ := hk
  have allI := items_ints hi
  unfold ofAClassStatement
  refine wpAny_bind (wpAny_typeOf hT ?_)
  refine wpAny_bind (wpAny_pure ?_)
  simp only [Bool.not_true, Bool.false_eq_true, if_false]
  refine wpAny_bind (wpAny_seqItems ho hd ?_)
  refine wpAny_bind ?_
  show wpAny _ _ (forIn items _ _) _ _ s
  rw [← Array.forIn_toList]
  refine wpAny_forIn_list _ (fun rest r s' => r.1 = none ∧ s' = s ∧ ∀ v ∈ rest, ∃ i t, v = Value.int i t) _ ?_ ?_ _ _ ⟨rfl, rfl, allI⟩
  · rintro v rest r s' ⟨hr, rfl, hall⟩
    obtain ⟨i, t, rfl⟩ := hall v List.mem_cons_self
    refine wpAny_bind ?_
    unfold ofAClassStatement
    refine wpAny_pure ?_
    simp only [Bool.false_eq_true, if_false]
    exact wpAny_pure ⟨rfl, rfl, fun u hu' => hall u (List.mem_cons_of_mem _ hu')⟩
  · rintro ⟨r1, r2⟩ s' ⟨hr, rfl, _⟩
    simp only at hr
    subst hr
    exact wpAny_pure h
theorem seen_tup {k : List Int} {b : Addr} {ys : List Value} {Q : Bool → Shared → Prop} (hk : TK prog w s.heap k b) (hy : ∀ y ∈ ys, ∃ k' b', y = Value.ref b' ∧ TK prog w s.heap k' b') (h : Q false s) :
    wpAny (model prog w) A (searchCouldBeSeen (.ref b) ys) Q E s := by
  unfold searchCouldBeSeen
  refine wpAny_bind ?_
  refine wpAny_forIn_list _ (fun rest r s' => r.1 = none ∧ s' = s ∧ ∀ y ∈ rest, ∃ k' b', y = Value.ref b' ∧ TK prog w s.heap k' b') _ ?_ ?_ _ _ ⟨rfl, rfl, hy⟩
  · rintro y rest r s' ⟨hr, rfl, hall⟩
    obtain ⟨k', b', rfl, hk'⟩ := hall y List.mem_cons_self
    have nx : (none : Option Bool) = none ∧ s' = s' ∧ ∀ (y : Value), y ∈ rest → ∃ k' b', y = Value.ref b' ∧ TK prog w s'.heap k' b' := ⟨rfl, rfl, fun u hu' => hall u (List.mem_cons_of_mem _ hu')⟩
    refine wpAny_ite_split (fun _ => wpAny_pure nx) (fun _ => ?_)
    refine wpAny_bind (wpAny_eqIsQuiet_tuple hk ?_)
    simp only [Bool.not_true, Bool.false_eq_true, if_false]
    refine wpAny_bind (wpAny_eqIsQuiet_tuple hk' ?_)
    simp only [Bool.not_true, Bool.false_eq_true, if_false]
    refine wpAny_bind (class_tup hk ?_)
    simp only [Bool.false_eq_true, if_false]
    refine wpAny_bind (class_tup hk' ?_)
    simp only [Bool.false_eq_true, if_false]
    exact wpAny_pure nx
  · rintro ⟨r1, r2⟩ s' ⟨hr, rfl, _⟩
    simp only at hr
    subst hr
    exact wpAny_pure h
theorem same_self (b : Addr) : isSame (.ref b) (.ref b) = pure true := by
  unfold isSame
  simp
theorem memory_same (t : SetTable) : t.sameMemory t.moves t.mask = some true := by
  unfold SetTable.sameMemory
  simp
def Els (prog : Program) (w : World) (h : Heap) (es : Array (Int × Value)) : Prop := ∀ e ∈ es.toList, ∃ k b, e = (tH prog w k, Value.ref b) ∧ TK prog w h k b
theorem search_from {a b : Addr} {o : Obj} {es : Array (Int × Value)} {ep : Nat} {t : SetTable} {led : Bool} {k0 : List Int} {Q : SetFound → Shared → Prop} (hu : A.units < cLine)
    (ho : s.heap.get? a = some o) (hd : o.data = .set es ep t) (hf : t.fits es.size = true) (T : Tb t led) (W : Wel t es) (S : Siz t es.size) (hE : Els prog w s.heap es) (hk : TK prog w s.heap k0 b)
    (kE : Nat) (he : Emp t (pth t.mask kE (start t.mask (tH prog w k0))).j) (hn : ∀ k' < kE, ¬ Emp t (pth t.mask k' (start t.mask (tH prog w k0))).j)
    (q1 : (∃ b', (tH prog w k0, Value.ref b') ∈ es.toList ∧ TK prog w s.heap k0 b') → Q (.there none) s)
    (q2 : (¬ ∃ b', (tH prog w k0, Value.ref b') ∈ es.toList ∧ TK prog w s.heap k0 b') → Q (.free (pth t.mask kE (start t.mask (tH prog w k0))).j false) s) :
    ∀ (fuel c : Nat) (st : Option Probe), c ≤ kE → kE - c < fuel → st.getD (t.probeStart (tH prog w k0)) = pth t.mask c (start t.mask (tH prog w k0)) →
      (∀ c' < c, ∀ (i : Nat), t.place[i]? = some (pth t.mask c' (start t.mask (tH prog w k0))).j → ∀ b', es[i]? = some (tH prog w k0, Value.ref b') → ¬ TK prog w s.heap k0 b') →
      wpAny (model prog w) A (setSearchFrom a (.ref b) (tH prog w k0) true fuel st) Q E s
  | 0, c, st, _, hfu, _, _ => absurd hfu (Nat.not_lt_zero _)
  | fuel + 1, c, st, hc, hfu, hst, hbef => by
    have psz : t.place.size = es.size := by
      simp only [SetTable.fits, Bool.and_eq_true, beq_iff_eq] at hf
      exact hf.1
    have hadd : ∀ d, pth t.mask d (pth t.mask c (start t.mask (tH prog w k0))) = pth t.mask (c + d) (start t.mask (tH prog w k0)) := fun d => (pth_add _ c d _).symm
    have hfirst := first_emp S.full (Fine.pth (m := t.mask) c (start_fine t.mask (tH prog w k0))) (emp_there (by have := S.le; omega))
    obtain ⟨kf, f1, f2, f3⟩ := hfirst
    rw [hadd] at f2
    have ekf : c + kf = kE := by
      rcases Nat.lt_trichotomy (c + kf) kE with z | z | z
      · exact absurd f2 (hn _ z)
      · exact z
      · have := f3 (kE - c) (by omega)
        rw [hadd, show c + (kE - c) = kE by omega] at this
        exact absurd he this
    have pg := probe_go T (fun i => (es[i]?.map (·.1)).getD 0) (tH prog w k0) (10 * turns t.mask) kf (pth t.mask c (start t.mask (tH prog w k0))) (by rw [pth_dummy]; rfl) f1 (by rw [hadd, ekf]; exact he) f3
    unfold setSearchFrom
    refine wpAny_bind (wpAny_setState_of ho hd hf ?_)
    dsimp only
    rw [if_neg (by rw [S.odd]; exact Bool.false_ne_true), hst]
    rcases pg with ⟨e1, e2⟩ | ⟨k', i, g1, g2, g3, g4, g5⟩
    · generalize hX : t.probe _ (tH prog w k0) (pth t.mask c (start t.mask (tH prog w k0))) = X
      have hX' : X = some (.empty (pth t.mask kE (start t.mask (tH prog w k0))).j none) := by
        rw [← ekf, ← hadd]
        exact hX.symm.trans e1
      subst hX'
      refine wpAny_pure (q2 ?_)
      rintro ⟨b', hm, hk'⟩
      obtain ⟨i, hi⟩ := List.mem_iff_getElem?.mp hm
      rw [Array.getElem?_toList] at hi
      obtain ⟨k2, h2, h3⟩ := W.ahead psz hi he
      by_cases z : k2 < c
      · exact hbef k2 z i h3 b' hi hk'
      · refine e2 (k2 - c) (by omega) i (by rw [hadd, show c + (k2 - c) = k2 by omega]; exact h3) ?_
        show (es[i]?.map (·.1)).getD 0 = _
        rw [hi]
        rfl
    · generalize hX : t.probe _ (tH prog w k0) (pth t.mask c (start t.mask (tH prog w k0))) = X
      have hX' : X = some (.candidate (pth t.mask k' (pth t.mask c (start t.mask (tH prog w k0)))).j i (pth t.mask (k' + 1) (pth t.mask c (start t.mask (tH prog w k0))))) := hX.symm.trans g4
      subst hX'
      have il : i < es.size := by
        have := (Array.getElem?_eq_some_iff.mp g2).1
        omega
      obtain ⟨k1, b1, e1, hk1⟩ := hE es[i] (by rw [← Array.getElem_toList]; exact List.getElem_mem _)
      have hi : es[i]? = some (tH prog w k1, Value.ref b1) := by rw [Array.getElem?_eq_getElem il, e1]
      have eh : tH prog w k1 = tH prog w k0 := by
        have : (es[i]?.map (·.1)).getD 0 = tH prog w k0 := g3
        rw [hi] at this
        exact this
      have hm : (tH prog w k0, Value.ref b1) ∈ es.toList := by
        rw [← eh]
        rw [← Array.getElem?_toList] at hi
        exact List.mem_of_getElem? hi
      have hys : ∀ y ∈ List.map (fun x => x.snd) (Array.filter (fun x => x.fst == tH prog w k0) es).toList, ∃ k' b', y = Value.ref b' ∧ TK prog w s.heap k' b' := by
        intro y hy
        obtain ⟨e, he', rfl⟩ := List.mem_map.mp hy
        have : e ∈ es.toList := by
          have q := Array.mem_toList_iff.mp he'
          exact Array.mem_toList_iff.mpr (Array.mem_filter.mp q).1
        obtain ⟨k2, b2, e2, h2⟩ := hE e this
        exact ⟨k2, b2, by rw [e2], h2⟩
      have led2 : t.led = true ∨ t.led = false := by cases t.led <;> simp
      have hs := slot_live T g2
      have nxt : k1 ≠ k0 → wpAny (model prog w) A (setSearchFrom a (.ref b) (tH prog w k0) true fuel (some (pth t.mask (k' + 1) (pth t.mask c (start t.mask (tH prog w k0)))))) Q E s := fun ne => by
        refine search_from hu ho hd hf T W S hE hk kE he hn q1 q2 fuel (c + (k' + 1)) _ (by omega) (by omega) (by rw [← hadd]; rfl) fun c' hc' i' hp' b' hb' hk' => ?_
        by_cases z : c' < c
        · exact hbef c' z i' hp' b' hb' hk'
        · by_cases z2 : c' = c + k'
          · subst z2
            have : t.slot (pth t.mask (c + k') (start t.mask (tH prog w k0))).j = .live i' := slot_live T hp'
            rw [← hadd, hs] at this
            cases this
            rw [hi] at hb'
            have : b1 = b' := by
              have := (Prod.mk.inj (Option.some.inj hb')).2
              injection this
            subst this
            exact ne (hk1.inj hk')
          · refine g5 (c' - c) (by omega) i' (by rw [hadd, show c + (c' - c) = c' by omega]; exact hp') ?_
            show (es[i']?.map (·.1)).getD 0 = _
            rw [hb']
            rfl
      rcases led2 with hl | hl
      · dsimp only
        rw [hl]
        simp only [Bool.not_true, Bool.false_eq_true, if_false]
        rw [hi]
        refine wpAny_bind (wpAny_holding (wpAny_eqBool_tuple hu hk1 hk ?_))
        refine wpAny_bind (wpAny_setState_of ho hd hf ?_)
        by_cases hkk : k1 = k0
        · rw [decide_eq_true hkk]
          simp only [Bool.and_true, if_true]
          exact wpAny_pure (q1 ⟨b1, hm, by rw [← hkk]; exact hk1⟩)
        · rw [decide_eq_false hkk]
          simp only [Bool.and_false, Bool.false_eq_true, if_false]
          rw [memory_same]
          simp only [if_true]
          rw [hs]
          simp only
          rw [hi]
          simp only
          rw [same_self]
          refine wpAny_bind (wpAny_pure (wpAny_bind (wpAny_pure ?_)))
          simp only [if_true]
          exact nxt hkk
      · dsimp only
        rw [hl]
        simp only [Bool.not_false, if_true]
        refine wpAny_bind (seen_tup hk hys ?_)
        simp only [Bool.false_eq_true, if_false]
        rw [hi]
        refine wpAny_bind (wpAny_holding (wpAny_eqBool_tuple hu hk1 hk ?_))
        refine wpAny_bind (wpAny_setState_of ho hd hf ?_)
        by_cases hkk : k1 = k0
        · rw [decide_eq_true hkk]
          simp only [Bool.and_true, if_true]
          exact wpAny_pure (q1 ⟨b1, hm, by rw [← hkk]; exact hk1⟩)
        · rw [decide_eq_false hkk]
          simp only [Bool.and_false, Bool.false_eq_true, if_false]
          rw [memory_same]
          simp only [if_true]
          rw [hs]
          simp only
          rw [hi]
          simp only
          rw [same_self]
          refine wpAny_bind (wpAny_pure (wpAny_bind (wpAny_pure ?_)))
          simp only [if_true]
          exact nxt hkk
end
end STab
namespace STab
open PySem PySem.SetTable PyProof.Rows

section
variable {prog : Program} {w : World} {A : Around} {E : Value → Shared → Prop} {s : Shared}
def SetA (prog : Program) (w : World) (h : Heap) (a : Addr) (led : Bool) (us : List (List Int × Addr)) : Prop :=
  ∃ (o : Obj) (es : Array (Int × Value)) (ep : Nat) (t : SetTable), h.get? a = some o ∧ o.ExactSet ∧ o.data = .set es ep t ∧ es.toList.Perm (us.map fun u => (tH prog w u.1, Value.ref u.2)) ∧ t.fits es.size = true ∧ Tb t led ∧ Wel t es ∧ Siz t es.size
theorem SetA.keep {a : Addr} {h h' : Heap} {led : Bool} {us : List (List Int × Addr)} (x : SetA prog w h a led us) (k : ∀ o, h.get? a = some o → h'.get? a = some o) : SetA prog w h' a led us := by
  obtain ⟨o, es, ep, t, ho, r⟩ := x
  exact ⟨o, es, ep, t, k o ho, r⟩
theorem siz_fits {t : SetTable} {led : Bool} {n : Nat} (T : Tb t led) (S : Siz t n) (h : t.place.size = n) : t.fits n = true := by
  have := S.le
  unfold SetTable.fits SetTable.fill
  rw [T.dm, h]
  simp
  omega
theorem stored_set {a : Addr} {h : Heap} {o : Obj} {es es' : Array (Int × Value)} {ep : Nat} {t t' : SetTable} {led : Bool} {us : List (List Int × Addr)} (ho : h.get? a = some o) (hx : o.ExactSet) (hd : o.data = .set es ep t)
    (pm : es'.toList.Perm (us.map fun u => (tH prog w u.1, Value.ref u.2))) (hf : t'.fits es'.size = true) (T : Tb t' led) (W : Wel t' es') (S : Siz t' es'.size) :
    (h.update a (Obj.putSet es' t')).get? a = some { o with data := .set es' (ep + 1) t' } ∧ SetA prog w (h.update a (Obj.putSet es' t')) a led us := by
  have g := Heap.get?_update_self (Obj.putSet es' t') ho (by rw [putSet_of es' t' hd]; rfl)
  rw [putSet_of es' t' hd] at g
  exact ⟨g, _, es', ep + 1, t', g, hx, rfl, pm, hf, T, W, S⟩
theorem relay_tup {a : Addr} {o : Obj} {es : Array (Int × Value)} {ep : Nat} {t : SetTable} {led : Bool} {us : List (List Int × Addr)} {wt m : Nat} {Q : Unit → Shared → Prop} (ho : s.heap.get? a = some o) (hx : o.ExactSet) (hd : o.data = .set es ep t)
    (pm : es.toList.Perm (us.map fun u => (tH prog w u.1, Value.ref u.2))) (hf : t.fits es.size = true) (T : Tb t led) (hm : sizeAbove wt - 1 = m) (hz : sizeAbove wt ≤ sizeLine) (F : Full m) (hn : es.size ≤ m)
    (S : ∀ t' : SetTable, t'.mask = m → Siz t' es.size) (h : ∀ h', Heap.SameBut a s.heap h' → SetA prog w h' a led us → Q () { s with heap := h' }) :
    wpAny (model prog w) A (setRelay a wt) Q E s := by
  obtain ⟨t', order, e1, e2, e3, e4, e5, e6, e7⟩ := relaid_ok T es wt m hm F hn
  unfold setRelay
  refine wpAny_bind (wpAny_setState_of ho hd hf ?_)
  dsimp only
  rw [if_neg (by omega), e1]
  refine wpAny_bind ?_
  show wpAny _ _ (if ((order.filterMap (es[·]?)).size != es.size) = true then _ else _) _ _ _
  rw [if_neg (by rw [e2]; simp)]
  refine wpAny_pure ?_
  have S' : Siz t' (order.filterMap (es[·]?)).size := by rw [e2]; exact S t' e4
  have b1 : (order.filterMap (es[·]?)).size ≤ sizeLine := by
    have := S'.le
    rw [e4] at this
    have h2 : m + 1 ≤ sizeLine := by omega
    omega
  refine wpAny_storeSet_of ho hd (h _ (Heap.SameBut.update _ _ _) ?_) b1
  exact (stored_set ho hx hd (e3.trans pm) (siz_fits e6 S' (by rw [e5, e2])) e6 e7 S').2
theorem add_tup {a b : Addr} {led : Bool} {us : List (List Int × Addr)} {k0 : List Int} {Q : Bool → Shared → Prop} (hu : A.units < cLine) (hS : SetA prog w s.heap a led us) (room : us.length + 1 < 77)
    (hT : ∀ u ∈ us, TK prog w s.heap u.1 u.2) (hk : TK prog w s.heap k0 b)
    (h : ∀ h' b1, Heap.SameBut a s.heap h' → SetA prog w h' a led (if k0 ∈ us.map (·.1) then us else (k0, b) :: us) → Q b1 { s with heap := h' }) :
    wpAny (model prog w) A (setAddHashed a (.ref b) (tH prog w k0)) Q E s := by
  obtain ⟨o, es, ep, t, ho, hx, hd, pm, hf, T, W, S⟩ := id hS
  have psz : t.place.size = es.size := by
    simp only [SetTable.fits, Bool.and_eq_true, beq_iff_eq] at hf
    exact hf.1
  have hlen : es.size = us.length := by rw [← Array.length_toList, pm.length_eq, List.length_map]
  have hE : Els prog w s.heap es := fun e he => by
    obtain ⟨u, hu', rfl⟩ := List.mem_map.mp (pm.mem_iff.mp he)
    exact ⟨u.1, u.2, rfl, hT u hu'⟩
  have mem_iff : (∃ b', (tH prog w k0, Value.ref b') ∈ es.toList ∧ TK prog w s.heap k0 b') ↔ k0 ∈ us.map (·.1) := by
    constructor
    · rintro ⟨b', hm, hk'⟩
      obtain ⟨u, hu', e⟩ := List.mem_map.mp (pm.mem_iff.mp hm)
      have eb : u.2 = b' := by
        have := (Prod.mk.inj e).2
        injection this
      have := hT u hu'
      rw [eb] at this
      exact List.mem_map.mpr ⟨u, hu', this.inj hk'⟩
    · intro hm
      obtain ⟨u, hu', rfl⟩ := List.mem_map.mp hm
      exact ⟨u.2, pm.mem_iff.mpr (List.mem_map.mpr ⟨u, hu', rfl⟩), hT u hu'⟩
  obtain ⟨kE, f1, f2, f3⟩ := first_emp S.full (start_fine t.mask (tH prog w k0)) (emp_there (by have := S.le; omega))
  have noscan : byScan (.ref b) es = false := by unfold byScan; rfl
  have fu : kE - 0 < 100000 := by
    have : t.mask ≤ 127 := by
      rcases S with ⟨e, _⟩ | ⟨e, _⟩ | ⟨e, _⟩ <;> omega
    have h2 : 10 * turns t.mask = 10 * (t.mask + 15) := rfl
    omega
  unfold setAddHashed setAddHashedIn
  refine wpAny_holding (wpAny_bind (wpAny_setState_of ho hd hf ?_))
  dsimp only
  rw [noscan]
  simp only [Bool.false_eq_true, if_false]
  unfold setSearch
  refine wpAny_bind (search_from hu ho hd hf T W S hE hk kE f2 f3 (fun ex => ?_) (fun nex => ?_) 100000 0 none (Nat.zero_le _) fu rfl fun c' hc' => absurd hc' (Nat.not_lt_zero _))
  · refine wpAny_pure ?_
    exact h s.heap false (Heap.SameBut.refl a s.heap) (by rw [if_pos (mem_iff.mp ex)]; exact hS)
  · have hm : ¬ k0 ∈ us.map (·.1) := fun z => nex (mem_iff.mpr z)
    refine wpAny_bind (wpAny_setState_of ho hd hf ?_)
    dsimp only
    generalize hj : (pth t.mask kE (start t.mask (tH prog w k0))).j = j
    have W1 : Wel (t.put j).1 (insertAt es (t.put j).2 (tH prog w k0, Value.ref b)) := by rw [← hj]; exact W.put T psz f2 f3
    have T1 : Tb (t.put j).1 led := T.put (slot_emp T (by rw [← hj]; exact f2))
    have hp : below t.place j ≤ t.place.size := (below_spec T.srt j).1
    have psz1 : (t.put j).1.place.size = es.size + 1 := by
      show (insertAt t.place (below t.place j) j).size = _
      rw [insertAt_size _ _ _ hp, psz]
    have esz1 : (insertAt es (t.put j).2 (tH prog w k0, Value.ref b)).size = es.size + 1 := insertAt_size _ _ _ (by show below t.place j ≤ es.size; omega)
    have pm1 : (insertAt es (t.put j).2 (tH prog w k0, Value.ref b)).toList.Perm (((k0, b) :: us).map fun u => (tH prog w u.1, Value.ref u.2)) := by
      rw [ins_list, List.map_cons]
      refine List.perm_middle.trans (List.Perm.cons _ ?_)
      rw [List.take_append_drop]
      exact pm
    generalize insertAt es (t.put j).2 (tH prog w k0, Value.ref b) = es1 at W1 esz1 pm1
    -- behind the test of the hash
    have tail : ∀ t2 : SetTable, t2.mask = (t.put j).1.mask → t2.place = (t.put j).1.place → t2.dummies = (t.put j).1.dummies → t2.led = (t.put j).1.led → wpAny (model prog w) A (do
        storeSet a es1 t2
        if (!false && t2.tooFull) = true then do
            setRelay a (SetTable.grown (es.size + 1))
            pure true
          else pure true) Q E s := by
      intro t2 m1 m2 m3 m4
      have T2 : Tb t2 led := ⟨by rw [m3]; exact T1.dm, by rw [m2]; exact T1.srt, by rw [m4]; exact T1.ld⟩
      have emp2 : ∀ e, Emp t2 e ↔ Emp (t.put j).1 e := fun e => by unfold Emp; rw [m2]
      have W2 : Wel t2 es1 := by
        intro u hu2
        rw [m2] at hu2
        obtain ⟨k, a1, a2⟩ := W1 u hu2
        exact ⟨k, by rw [m1]; exact a1, fun k' hk' => by rw [emp2, m1]; exact a2 k' hk'⟩
      have mk : t2.mask = t.mask := m1
      have fl : t2.tooFull = decide (t.mask * 3 ≤ (es.size + 1) * 5) := by
        unfold SetTable.tooFull SetTable.fill
        rw [T2.dm, m2, psz1, mk]
        simp
      have b1 : es1.size ≤ sizeLine := by rw [esz1, hlen]; exact Nat.le_trans (show us.length + 1 ≤ 77 by omega) (by decide)
      have sb1 := Heap.SameBut.update s.heap a (Obj.putSet es1 t2)
      have fin : ∀ h', Heap.SameBut a s.heap h' → SetA prog w h' a led ((k0, b) :: us) → Q true { s with heap := h' } := fun h' sb x => h h' true sb (by rw [if_neg hm]; exact x)
      refine wpAny_bind (wpAny_storeSet_of ho hd ?_ b1)
      have g := Heap.get?_update_self (Obj.putSet es1 t2) ho (by rw [putSet_of es1 t2 hd]; rfl)
      rw [putSet_of es1 t2 hd] at g
      by_cases full : t.mask * 3 ≤ (es.size + 1) * 5
      · rw [fl, decide_eq_true full]
        simp only [Bool.not_false, Bool.and_true, if_true]
        have fit2 : t2.fits es1.size = true := by
          unfold SetTable.fits SetTable.fill
          rw [T2.dm, m2, psz1, esz1, mk]
          have := S.le
          simp
          omega
        -- which table it was
        have go : ∀ m, sizeAbove (SetTable.grown (es.size + 1)) - 1 = m → sizeAbove (SetTable.grown (es.size + 1)) ≤ sizeLine → Full m → es1.size ≤ m → (∀ t' : SetTable, t'.mask = m → Siz t' es1.size) → wpAny (model prog w) A (do
            setRelay a (SetTable.grown (es.size + 1))
            pure true) Q E { s with heap := s.heap.update a (Obj.putSet es1 t2) } := fun m a1 a2 a3 a4 a5 => by
          refine wpAny_bind (relay_tup (s := { s with heap := s.heap.update a (Obj.putSet es1 t2) }) g hx rfl pm1 fit2 T2 a1 a2 a3 a4 a5 fun h' sb x => ?_)
          exact wpAny_pure (fin h' (sb1.trans sb) x)
        rcases S with ⟨e, l⟩ | ⟨e, l⟩ | ⟨e, l⟩
        · have n4 : es.size = 4 := by omega
          refine go 31 (by rw [n4]; decide) (by rw [n4]; decide) full31 (by omega) fun t' et => .inr (.inl ⟨et, by omega⟩)
        · have n18 : es.size = 18 := by omega
          refine go 127 (by rw [n18]; decide) (by rw [n18]; decide) full127 (by omega) fun t' et => .inr (.inr ⟨et, by omega⟩)
        · omega
      · rw [fl, decide_eq_false full]
        simp only [Bool.not_false, Bool.and_false, Bool.false_eq_true, if_false]
        have S2 : Siz t2 es1.size := by
          unfold Siz
          rw [mk, esz1]
          rcases S with ⟨e, l⟩ | ⟨e, l⟩ | ⟨e, l⟩
          · exact .inl ⟨e, by omega⟩
          · exact .inr (.inl ⟨e, by omega⟩)
          · exact .inr (.inr ⟨e, by omega⟩)
        have fit2 : t2.fits es1.size = true := siz_fits T2 S2 (by rw [m2, psz1, esz1])
        refine wpAny_pure (fin _ sb1 ?_)
        exact ⟨_, es1, ep + 1, t2, g, hx, rfl, pm1, fit2, T2, W2, S2⟩
    split
    · refine wpAny_bind (hashBy_tup hk ?_)
      exact tail _ rfl rfl rfl rfl
    · exact wpAny_bind (wpAny_pure (tail _ rfl rfl rfl rfl))
end
end STab
namespace STab
open PySem PySem.SetTable PyProof.Rows
theorem tk_keep {prog : Program} {w : World} {h h' : Heap} {k : List Int} {b : Addr} (x : TK prog w h k b) (e : ∀ o, h.get? b = some o → h'.get? b = some o) : TK prog w h' k b := by
  obtain ⟨o, items, n, ho, r⟩ := x
  exact ⟨o, items, n, e o ho, r⟩
def addT (us : List (List Int × Addr)) (u : List Int × Addr) : List (List Int × Addr) := if u.1 ∈ us.map (·.1) then us else u :: us
theorem addT_len (us : List (List Int × Addr)) (u : List Int × Addr) : (addT us u).length ≤ us.length + 1 := by
  unfold addT; split
  · omega
  · rw [List.length_cons]; omega
theorem addT_mem {us : List (List Int × Addr)} {u v : List Int × Addr} (h : v ∈ addT us u) : v = u ∨ v ∈ us := by
  unfold addT at h
  split at h
  · exact .inr h
  · exact List.mem_cons.mp h
section
variable {prog : Program} {w : World} {A : Around} {R : Result → Shared → Prop} {I : Addr} {fp wr : List Addr} {G : Array GenState → Array GenState → Prop} {n : Nat} {P : Nat → Value → Prop} {St : Nat → Shared → Prop}
theorem fill_tup (W : WalksS prog w A.in1 I fp wr G n P St) (S : Addr) (out : S ∉ fp) (led : Bool) (val : Nat → List Int × Addr) (hval : ∀ i v, P i v → v = .ref (val i).2) (hu : A.in1.units < cLine) :
    ∀ (m i : Nat) (us : List (List Int × Addr)) (s : Shared), i + m = n → St i s → SetA prog w s.heap S led us → us.length + m + 1 < 77 →
      (∀ u : List Int × Addr, (u ∈ us ∨ ∃ j, i ≤ j ∧ j < n ∧ u = val j) → TK prog w s.heap u.1 u.2 ∧ u.2 ≠ S ∧ u.2 ∉ wr) →
      (∀ s', Moved (S :: wr) G s s' → SetA prog w s'.heap S led (((List.range' i m).map val).foldl addT us) → R (.ok (.ret .none)) s') →
      codeAny (model prog w) A (.builtin "set.update.loop" ⟨[.ref S, .ref I], []⟩) R s
  | 0, i, us, s, hn, st, hS, _, _, fin => by
    have e : i = n := by omega
    subst e
    refine codeAny_builtin F.entry_set_update_loop ?_
    rw [Around.under_plainId F.plain_set_update_loop _]
    show wpAny _ A.in1 (pyNext (.ref I) >>= _) _ _ s
    refine wpAny_bind (W.done s _ _ st fun s' mv => wpAny_pure (fin s' (mv.mono fun b hb => List.mem_cons_of_mem _ hb) (hS.keep fun o e => mv.heap S o (fun z => out (W.sub _ z)) e)))
  | m + 1, i, us, s, hn, st, hS, room, tks, fin => by
    refine codeAny_builtin F.entry_set_update_loop ?_
    rw [Around.under_plainId F.plain_set_update_loop _]
    show wpAny _ A.in1 (pyNext (.ref I) >>= _) _ _ s
    refine wpAny_bind (W.item i s _ _ (by omega) st fun v s' pv st' mv => ?_)
    have ev := hval i v pv
    subst ev
    have hS' := hS.keep fun o e => mv.heap S o (fun z => out (W.sub _ z)) e
    have tks' : ∀ u : List Int × Addr, (u ∈ us ∨ ∃ j, i ≤ j ∧ j < n ∧ u = val j) → TK prog w s'.heap u.1 u.2 ∧ u.2 ≠ S ∧ u.2 ∉ wr := fun u hu' =>
      ⟨tk_keep (tks u hu').1 fun o e => mv.heap _ o (tks u hu').2.2 e, (tks u hu').2⟩
    have hi := tks' (val i) (.inr ⟨i, Nat.le_refl _, by omega, rfl⟩)
    show wpAny _ A.in1 (holding [Value.ref (val i).2] (setAdd S (.ref (val i).2)) >>= _) _ _ s'
    unfold setAdd
    refine wpAny_bind (wpAny_holding (wpAny_holding (wpAny_bind (wpAny_pyHash_tuple hu hi.1 ?_))))
    refine add_tup (s := { s' with toks := s'.toks + ((val i).1.length + 1) }) hu hS' (by omega) (fun u hu' => (tks' u (.inl hu')).1) hi.1 fun h' b1 sb x => ?_
    have room' : (addT us (val i)).length + m + 1 < 77 := by
      have := addT_len us (val i)
      omega
    refine wpAny_pure ⟨plainId_quiet F.plain_set_update_loop _, fill_tup W S out led val hval hu m (i + 1) (addT us (val i)) _ (by omega) (W.frame _ s' _ _ st' (Nat.le_add_right _ _) fun b hb o e => ?_) x room' (fun u hu' => ?_) fun s'' mv'' x'' => ?_⟩
    · rw [sb.2 b (fun z : b = S => out (by rw [← z]; exact hb))]; exact e
    · have hu2 : u ∈ us ∨ ∃ j, i ≤ j ∧ j < n ∧ u = val j := by
        rcases hu' with z | ⟨j, a1, a2, a3⟩
        · rcases addT_mem z with z | z
          · exact .inr ⟨i, Nat.le_refl _, by omega, z⟩
          · exact .inl z
        · exact .inr ⟨j, by omega, a2, a3⟩
      obtain ⟨t1, t2, t3⟩ := tks' u hu2
      exact ⟨tk_keep t1 fun o e => (sb.2 _ t2).trans e, t2, t3⟩
    · refine fin s'' (Moved.trans W.gtrans ((mv.mono fun b hb => List.mem_cons_of_mem _ hb).then_heap (Nat.le_add_right _ _) fun b o hb e => ?_) mv'') x''
      rw [sb.2 b (fun z : b = S => hb (by rw [z]; exact List.mem_cons_self))]; exact e
end
section
variable {prog : Program} {w : World} {A : Around} {E : Value → Shared → Prop} {s : Shared}
set_option maxHeartbeats 3200000 in
set_option maxRecDepth 100000 in
theorem set_of_tups {l : Addr} {items : Array Value} {us : List (List Int × Addr)} {Q : Value → Shared → Prop} (calm : A.handled = none) (hl : s.heap.IsList l items) (hi : items.toList = us.map fun u => Value.ref u.2) (hb : us.length + 1 < 77) (hT : ∀ u ∈ us, TK prog w s.heap u.1 u.2) (hu : A.units + 64 < cLine)
    (h : ∀ (h' : Heap) (tk : Nat), SetA prog w h' s.heap.objs.size (ledIn w) (us.foldl addT []) → (∀ b o, s.heap.get? b = some o → h'.get? b = some o) → Q (.ref s.heap.objs.size) { s with heap := h', toks := tk }) :
    wpAny (model prog w) A (call (.type "set") [.ref l]) Q E s := by
  obtain ⟨c, tl, mro⟩ := PySem.F.called_set.mro
  have made := PySem.F.called_set.made
  have sub := PySem.F.called_set.sub
  refine wpAny_call (codeAny_of_tree ?_)
  show wpAny _ _ (callAny (.type "set") _) _ _ _
  refine wpAny_pure ⟨Code.quiet_builtin _ (by decide +kernel), codeAny_builtin PySem.F.entry_type_call ?_⟩
  rw [Around.under_plain (weight_type_call_type "set" [.ref l] []) rfl]
  have noT := PySem.F.called_set.notType
  have canC := PySem.F.called_set.canCreate
  have tc := PySem.F.typeCall_set_1 (.ref l)
  repeat (any_goals (first | assumption | wp_step))
  refine codeAny_mono (new_set (.ref l) (E := E) (Q1 := fun obj s1 => obj = .ref s.heap.objs.size ∧ s1 = { s with heap := s.heap.push { cls := .type "set", dict := none, data := .set #[] 0 (.fresh 0 0 (ledIn w)) } }) ⟨rfl, rfl⟩) fun r s1 hr => ?_
  cases r with
  | error e => exact hr
  | ok fl =>
    cases fl with
    | ret obj =>
      obtain ⟨rfl, rfl⟩ := hr
      have g0 : (s.heap.push { cls := .type "set", dict := none, data := .set #[] 0 (.fresh 0 0 (ledIn w)) }).get? s.heap.objs.size = some { cls := .type "set", dict := none, data := .set #[] 0 (.fresh 0 0 (ledIn w)) } := Heap.get?_push_size _ rfl
      have ty : Shared.TypeIs { s with heap := s.heap.push { cls := .type "set", dict := none, data := .set #[] 0 (.fresh 0 0 (ledIn w)) } } (.ref s.heap.objs.size) "set" := ⟨_, g0, rfl⟩
      have li := PySem.F.called_set.init.lookup
      have bi := PySem.F.called_set.init.bind (.ref s.heap.objs.size)
      repeat (any_goals (first | assumption | wp_step))
      refine codeAny_mono (codeAny_call_builtin (R := wants (fun r s2 => r = .none ∧ ∃ h' tk, s2 = { s with heap := h', toks := tk } ∧ SetA prog w h' s.heap.objs.size (ledIn w) (us.foldl addT []) ∧ (∀ b o, s.heap.get? b = some o → h'.get? b = some o)) E)
        PySem.F.called_set.init.plain PySem.F.entry_set_init (check_set_init_1 ty ?_)) fun r2 s2 hr2 => ?_
      · obtain ⟨ol, hol, hcl, nl, hdl⟩ := hl
        obtain ⟨oc, od, odt, osl⟩ := ol
        simp only at hcl hdl
        subst hcl; subst hdl
        have hol' : (s.heap.push { cls := .type "set", dict := none, data := .set #[] 0 (.fresh 0 0 (ledIn w)) }).get? l = some { cls := .type "list", dict := od, data := .seq items nl, slots := osl } := Heap.get?_push_of_some _ hol
        have s1 := PySem.F.sub_list_set
        have s2 := PySem.F.sub_list_frozenset
        have ne : (Value.type "list" == Value.type "dict") = false := by decide
        have hl1 : (s.heap.push { cls := .type "set", dict := none, data := .set #[] 0 (.fresh 0 0 (ledIn w)) }).IsList l items := ⟨_, hol', rfl, nl, rfl⟩
        unfold Builtin.«set.__init__» noKeywords Builtin.Frozenset.updateFrom
        generalize ePI : pyIter = PI
        wp_walk
        subst ePI
        refine wpAny_pyIter_list hl1 (wpAny_bind (wpAny_runValue ?_))
        have lt : l < s.heap.objs.size := Heap.lt_size hol
        have calm3 : A.in1.in1.in1.handled = none := by simp [calm]
        have sz := Heap.size_push s.heap { cls := .type "set", dict := none, data := .set #[] 0 (.fresh 0 0 (ledIn w)) }
        have neI : l ≠ (s.heap.push { cls := .type "set", dict := none, data := .set #[] 0 (.fresh 0 0 (ledIn w)) }).objs.size := by rw [sz]; exact Nat.ne_of_lt (Nat.lt_succ_of_lt lt)
        have off : s.heap.objs.size ∉ [(s.heap.push { cls := .type "set", dict := none, data := .set #[] 0 (.fresh 0 0 (ledIn w)) }).objs.size, l] := fun z => by
          rw [sz] at z
          rcases List.mem_cons.mp z with z | z
          · exact absurd z (Nat.ne_of_lt (Nat.lt_succ_self _))
          · exact absurd (List.mem_singleton.mp z) (Nat.ne_of_gt lt)
        have hlen : items.size = us.length := by rw [← Array.length_toList, hi, List.length_map]
        have vals : ∀ (i : Nat) (v : Value), items[i]? = some v → v = .ref ((fun i => us.getD i ([], 0)) i).2 := fun i v hv => by
          rw [← Array.getElem?_toList, hi, List.getElem?_map] at hv
          cases q : us[i]? with
          | none => rw [q] at hv; cases hv
          | some u =>
            rw [q] at hv
            show v = .ref (us.getD i ([], 0)).2
            rw [List.getD_eq_getElem?_getD, q]
            exact (Option.some.inj hv).symm
        have tups : ∀ u : List Int × Addr, (u ∈ ([] : List (List Int × Addr)) ∨ ∃ j, 0 ≤ j ∧ j < items.size ∧ u = us.getD j ([], 0)) → TK prog w ((s.heap.push { cls := .type "set", dict := none, data := .set #[] 0 (.fresh 0 0 (ledIn w)) }).push { cls := .type "list_iterator", data := .fields #[.ref l, .int 0 0] }) u.1 u.2 ∧ u.2 ≠ s.heap.objs.size ∧ u.2 ∉ [(s.heap.push { cls := .type "set", dict := none, data := .set #[] 0 (.fresh 0 0 (ledIn w)) }).objs.size] := by
          rintro u (h0 | ⟨j, _, hj, rfl⟩)
          · cases h0
          · have hm : us.getD j ([], 0) ∈ us := by
              rw [List.getD_eq_getElem?_getD, List.getElem?_eq_getElem (by omega)]
              exact List.getElem_mem _
            have tk := hT _ hm
            have lb : (us.getD j ([], 0)).2 < s.heap.objs.size := by
              obtain ⟨o, _, _, ho, _⟩ := tk
              exact Heap.lt_size ho
            refine ⟨tk_keep tk fun o e => Heap.get?_push_of_some _ (Heap.get?_push_of_some _ e), Nat.ne_of_lt lb, fun z => ?_⟩
            rw [List.mem_singleton, sz] at z
            exact absurd z (Nat.ne_of_lt (Nat.lt_succ_of_lt lb))
        refine fill_tup ((Walks.list calm3 _ l neI items).toS) s.heap.objs.size off (ledIn w) (fun i => us.getD i ([], 0)) vals (by simp only [Around.in1_units]; omega) items.size 0 [] _ (Nat.zero_add _) ⟨⟨_, Heap.get?_push_size _ rfl, rfl, rfl⟩, (hl1.push _)⟩ ?set0 (by rw [hlen]; simpa using hb) tups ?after
        case set0 => exact ⟨_, #[], 0, _, Heap.get?_push_of_some _ g0, ⟨rfl, rfl, rfl⟩, rfl, List.Perm.refl _, by rfl, Tb.fresh 0 0 _, fun u hu => by simp [SetTable.fresh] at hu, .inl ⟨rfl, by decide⟩⟩
        case after =>
          intro s' mv x'
          obtain ⟨h', g', d', tk', os'⟩ := s'
          have eg : g' = s.gens := mv.gens
          have ed : d' = s.drawn := mv.drawn
          have eo : os' = s.os := mv.os
          subst eg; subst ed; subst eo
          have ev : (List.range' 0 items.size).map (fun i => us.getD i ([], 0)) = us := by
            rw [hlen, ← List.range_eq_range']
            refine List.ext_getElem (by simp) fun i h1 h2 => ?_
            simp [h2]
          rw [ev] at x'
          show wpAny _ _ _ _ _ _
          refine wpAny_pure ?_
          show wpAny _ _ (ret Value.none) _ _ _
          refine wpAny_pure ⟨rfl, h', tk', rfl, x', fun b o e => ?_⟩
          have lb := Heap.lt_size e
          refine mv.heap b o (fun z => ?_) (Heap.get?_push_of_some _ (Heap.get?_push_of_some _ e))
          rcases List.mem_cons.mp z with z | z
          · exact absurd z (Nat.ne_of_lt lb)
          · rw [List.mem_singleton.mp z, sz] at lb
            exact absurd lb (Nat.not_lt.mpr (Nat.le_succ _))
      · cases r2 with
        | error e => exact hr2
        | ok fl2 =>
          cases fl2 with
          | ret r =>
            obtain ⟨rfl, h', tk, rfl, x', k'⟩ := hr2
            repeat (any_goals (first | assumption | wp_step))
            exact h _ _ x' k'
          | _ => exact hr2.elim
    | _ => exact hr.elim
end
end STab
namespace STab
open PySem PyProof.Rows
section
variable {prog : Program} {w : World} {A : Around} {E : Value → Shared → Prop} {s : Shared}
theorem SetA.typeIs {a : Addr} {led : Bool} {us : List (List Int × Addr)} (x : SetA prog w s.heap a led us) : s.TypeIs (.ref a) "set" := by
  obtain ⟨o, es, ep, t, ho, hx, _⟩ := x
  exact ⟨o, ho, hx.1⟩
theorem iter_setA {S : Addr} {us : List (List Int × Addr)} {Q : Value → Shared → Prop} (hS : SetA prog w s.heap S (ledIn w) us)
    (h : ∀ (I : Addr) (fp : List Addr) (St : Nat → Shared → Prop) (P : Nat → Value → Prop) (vs : List Value) (h' : Heap) (d' : Drawn), (∀ A' : Around, A'.handled = none → WalksS prog w A' I fp [I] (fun a b => b = a) vs.length P St) →
      (∀ (i : Nat) (v : Value), P i v → vs[i]? = some v) → vs.Perm (us.map fun u => Value.ref u.2) → s.heap.objs.size ≤ I → (∀ b ∈ fp, b = S ∨ s.heap.objs.size ≤ b) → St 0 { s with heap := h', drawn := d' } → (∀ b o, s.heap.get? b = some o → h'.get? b = some o) → Q (.ref I) { s with heap := h', drawn := d' }) :
    wpAny (model prog w) A (pyIter (.ref S)) Q E s := by
  have ty := hS.typeIs
  obtain ⟨o, es, ep, t, ho, hx, hd, pm, hf, T, _, SZ⟩ := hS
  have hb : es.size < scanBound := by
    show es.size < 4096
    rcases SZ with ⟨_, l⟩ | ⟨_, l⟩ | ⟨_, l⟩ <;> omega
  have pmv : (es.toList.map (·.2)).Perm (us.map fun u => Value.ref u.2) := by
    have := pm.map (·.2)
    rw [List.map_map] at this
    exact this
  have lS := Heap.lt_size ho
  have psz : t.place.size = es.size := by
    simp only [SetTable.fits, Bool.and_eq_true, beq_iff_eq] at hf
    exact hf.1
  refine wpAny_pyIter_slot ty PySem.F.slot_set_iter (wpAny_call_entry PySem.F.slot_set_iter ty entry_s_iter ?_ (PySem.F.args_set_iter_1 _))
  unfold Builtin.«frozenset.__iter__»
  refine wpAny_bind (wpAny_of_eq (a := S) rfl ?_)
  unfold Builtin.Frozenset.sizeOf
  refine wpAny_bind (wpAny_bind (wpAny_setEntries_of ho hd hf (wpAny_pure ?_)))
  refine wpAny_bind (setDrawn_ok ho hd hf ?_)
  -- behind the first field: the record is laid
  have lay : ∀ (s1 : Shared) (first : Value) (Q1 : Value → Shared → Prop), s1.heap.get? S = some o → Q1 (.ref s1.heap.objs.size) { s1 with heap := s1.heap.push (SiObj first 0 S es.size ep) } →
      wpAny (model prog w) A.in1 (setEpoch S >>= fun e => newFields "set_iterator" [first, rawInt 0, .ref S, rawInt es.size, rawInt e] >>= fun r => ret r)
        (fun fin s' => ∃ r, fin = .done (.ret r) ∧ Q1 r s') (fun e s' => E e s') s1 := fun s1 first Q1 h1 q => by
    refine wpAny_bind (wpAny_setEpoch_of h1 hd hf (wpAny_bind ?_))
    exact wpAny_newObj_type (wpAny_pure ⟨_, rfl, q⟩)
  have cases_b : w.params.followText "set-order" = true ∨ w.params.followText "set-order" = false := by
    cases w.params.followText "set-order"
    · exact .inr rfl
    · exact .inl rfl
  have slots : ∀ (l : List (Int × Value)) (sl : Nat → Nat), l.Perm es.toList → sl 0 = 0 →
      (∀ (i : Nat) (e : Int × Value), l[i]? = some e → ∀ (A' : Around) (s : Shared) (Q' : Option (Value × Nat) → Shared → Prop) (E' : Value → Shared → Prop), s.heap.get? S = some o → Q' (some (e.2, sl (i + 1))) s → wpAny (model prog w) A' (setNext S (sl i) i ep) Q' E' s) →
      (∀ (A' : Around) (s : Shared) (Q' : Option (Value × Nat) → Shared → Prop) (E' : Value → Shared → Prop), s.heap.get? S = some o → Q' none s → wpAny (model prog w) A' (setNext S (sl es.size) es.size ep) Q' E' s) →
      Q (.ref s.heap.objs.size) { s with heap := s.heap.push (SiObj (rawInt 0) 0 S es.size ep) } := by
    intro l sl pl z0 hn hz
    have ll : (l.map (·.2)).length = es.size := by rw [List.length_map, pl.length_eq, Array.length_toList]
    have hn' : ∀ (A' : Around) (i : Nat) (v : Value), (l.map (·.2))[i]? = some v → ∀ (s : Shared) (Q' : Option (Value × Nat) → Shared → Prop) (E' : Value → Shared → Prop), s.heap.get? S = some o → Q' (some (v, sl (i + 1))) s → wpAny (model prog w) A'.in1 (setNext S (sl i) i ep) Q' E' s := by
      intro A' i v hv s0 Q' E' g q
      rw [List.getElem?_map] at hv
      cases q1 : l[i]? with
      | none => rw [q1] at hv; cases hv
      | some e =>
        rw [q1] at hv
        have hv : e.2 = v := Option.some.inj hv
        subst hv
        exact hn i e q1 _ s0 Q' E' g q
    have W : ∀ A' : Around, A'.handled = none → WalksS prog w A' s.heap.objs.size [s.heap.objs.size, S] [s.heap.objs.size] (fun a b => b = a) (l.map (·.2)).length (fun i v => (l.map (·.2))[i]? = some v) (fun i s1 => s1.heap.get? s.heap.objs.size = some (SiObj (rawInt (sl i)) i S es.size ep) ∧ s1.heap.get? S = some o) := fun A' calm => by
      rw [ll]
      exact walks_slot calm (Nat.ne_of_gt lS) hd hf (l.map (·.2)) ll sl (hn' A') (fun s0 Q' E' g q => hz _ s0 Q' E' g q)
    refine h s.heap.objs.size [s.heap.objs.size, S] _ _ (l.map (·.2)) _ s.drawn W (fun i v hv => hv) ((pl.map (·.2)).trans pmv) (Nat.le_refl _) (fun b hb => ?_) ⟨?_, Heap.get?_push_of_some _ ho⟩ fun b ob e => Heap.get?_push_of_some _ e
    · rcases List.mem_cons.mp hb with z | z
      · exact .inr (Nat.le_of_eq z.symm)
      · exact .inl (List.mem_singleton.mp z)
    · rw [z0]
      exact Heap.get?_push_size _ rfl
  cases hdr : (!(w.params.followText "set-order") && (!t.plain && decide (es.size > 1))) with
  | true =>
    simp only [if_true]
    refine wpAny_bind (draw_perm es.size (List.range es.size) s (by simp) fun js d pj => ?_)
    have hj : ∀ j ∈ js, j < es.size := fun j m => List.mem_range.mp (pj.mem_iff.mp m)
    have jl : js.length = es.size := by rw [pj.length_eq, List.length_range]
    refine wpAny_bind (wpAny_newObj_type ?_ (show (js.map fun (i : Nat) => rawInt i).toArray.size ≤ sizeLine by rw [List.size_toArray, List.length_map, jl]; exact fits_of_scanBound hb))
    have g1 : (s.heap.push { cls := .type "tuple", data := .seq (js.map fun (i : Nat) => rawInt i).toArray }).get? S = some o := Heap.get?_push_of_some _ ho
    have sz := Heap.size_push s.heap { cls := .type "tuple", data := .seq (js.map fun (i : Nat) => rawInt i).toArray }
    refine lay _ _ _ g1 ⟨"set_iterator", _, ⟨_, Heap.get?_push_size _ rfl, rfl⟩, slot_si_next.lookup, ?_⟩
    let l : List (Int × Value) := js.map fun j => es.getD j (0, .none)
    have lg : ∀ j, j < es.size → es[j]? = some (es.getD j (0, .none)) := fun j hj => by simp [Array.getD, hj]
    have pl : l.Perm es.toList := by
      refine (pj.map fun j => es.getD j (0, .none)).trans (List.Perm.of_eq ?_)
      refine List.ext_getElem (by simp) fun i h1 h2 => ?_
      have hi : i < es.size := by simpa using h2
      simp [Array.getD, hi]
    have ll : (l.map (·.2)).length = es.size := by simp [l, jl]
    have W : ∀ A' : Around, A'.handled = none → WalksS prog w A' (s.heap.push { cls := .type "tuple", data := .seq (js.map fun (i : Nat) => rawInt i).toArray }).objs.size [(s.heap.push { cls := .type "tuple", data := .seq (js.map fun (i : Nat) => rawInt i).toArray }).objs.size, S, s.heap.objs.size]
        [(s.heap.push { cls := .type "tuple", data := .seq (js.map fun (i : Nat) => rawInt i).toArray }).objs.size] (fun a b => b = a) (l.map (·.2)).length (fun i v => ∃ j, js[i]? = some j ∧ ∃ e, es[j]? = some e ∧ v = e.2) _ := fun A' calm => by
      rw [ll]
      exact walks_drawn calm (by rw [sz]; exact Nat.ne_of_gt (Nat.lt_succ_of_lt lS)) (by rw [sz]; exact Nat.ne_of_gt (Nat.lt_succ_self _)) hd hf js jl hj (op := { cls := .type "tuple", data := .seq (js.map fun (i : Nat) => rawInt i).toArray }) rfl
    refine h _ _ _ _ (l.map (·.2)) _ d W (fun i v hv => ?_) ((pl.map (·.2)).trans pmv) (by rw [sz]; exact Nat.le_succ _) (fun b hb => ?_)
      ⟨Heap.get?_push_size _ rfl, Heap.get?_push_of_some _ g1, Heap.get?_push_of_some _ (Heap.get?_push_size _ rfl)⟩ fun b ob e => Heap.get?_push_of_some _ (Heap.get?_push_of_some _ e)
    · obtain ⟨j, q1, e, q2, rfl⟩ := hv
      have jlt := hj j (List.mem_of_getElem? q1)
      rw [lg j jlt] at q2
      simp only [l, List.getElem?_map, q1, Option.map_some]
      rw [Option.some.inj q2]
    · rcases List.mem_cons.mp hb with z | z
      · refine .inr ?_
        rw [z, sz]
        exact Nat.le_succ _
      · rcases List.mem_cons.mp z with z | z
        · exact .inl z
        · exact .inr (Nat.le_of_eq (List.mem_singleton.mp z).symm)
  | false =>
    simp only [Bool.false_eq_true, if_false]
    refine wpAny_bind (wpAny_pure (lay s _ _ ho ⟨"set_iterator", _, ⟨_, Heap.get?_push_size _ rfl, rfl⟩, slot_si_next.lookup, ?_⟩))
    rcases cases_b with bt | bt
    · refine slots (pickOrder (w.params.setOrder S ep) es).toList (fun _ => 0) (pick_perm _ es) rfl (fun i e he A' s0 Q' E' g q => ?_) (fun A' s0 Q' E' g q => ?_)
      · refine next_text 0 i g hd hf bt ?_
        rw [← Array.getElem?_toList, he]
        exact q
      · refine next_text 0 es.size g hd hf bt ?_
        have e1 : (pickOrder (w.params.setOrder S ep) es)[es.size]? = none := by
          rw [← Array.getElem?_toList]
          refine List.getElem?_eq_none ?_
          rw [(pick_perm _ es).length_eq, Array.length_toList]
          exact Nat.le_refl _
        rw [e1]
        exact q
    · have hl : t.led = true := by rw [T.ld]; show (!(w.params.followText "set-order")) = true; rw [bt]; rfl
      have hp : (!t.plain && decide (es.size > 1)) = false := by
        rw [bt] at hdr
        simpa using hdr
      refine slots es.toList (slotAt t) (List.Perm.refl _) rfl (fun i e he A' s0 Q' E' g q => ?_) (fun A' s0 Q' E' g q => ?_)
      · have hi : i < es.size := by
          have := (List.getElem?_eq_some_iff.mp he).1
          simpa using this
        refine next_place (slotAt t i) i g hd hf bt hl hp ?_
        rw [slotAt_below T (by omega), ← Array.getElem?_toList, he]
        have e2 : t.place[i]? = some (t.place.getD i 0) := by
          have : i < t.place.size := by omega
          simp [Array.getD, this]
        rw [e2]
        exact q
      · refine next_place (slotAt t es.size) es.size g hd hf bt hl hp ?_
        rw [slotAt_below T (by omega)]
        have e1 : es[es.size]? = none := by simp
        rw [e1]
        exact q
theorem extend_setA (calm : A.handled = none) {R : Result → Shared → Prop} {S T : Addr} {us : List (List Int × Addr)} {c0 : Nat} (res : Value) (hS : SetA prog w s.heap S (ledIn w) us) (small : us.length ≤ 1000) (hT : s.heap.get? T = some { cls := .type "list", data := .seq #[] c0 })
    (hR : ∀ (s' : Shared) (acc : Array Value) (c' : Nat) (_ : Unit), (∀ b o, b ≠ T → s.heap.get? b = some o → s'.heap.get? b = some o) → s'.gens = s.gens → s'.os = s.os → s'.heap.get? T = some { cls := .type "list", dict := none, data := .seq acc c', slots := #[] } →
      acc.toList.Perm (us.map fun u => Value.ref u.2) → R (.ok (.ret res)) s') :
    wpAny (model prog w) A.in1 (Builtin.List.listExtendWith (.ref T) (.ref S) res)
      (fun fin s' => match fin with | .done f => R (.ok f) s' | .again c' => c'.quiet = true ∧ codeAny (model prog w) A c' R s') (fun e s' => R (.error e) s') s := by
  have ty := hS.typeIs
  have nST : S ≠ T := by
    rintro rfl
    obtain ⟨o, _, _, _, ho, hx, _⟩ := hS
    rw [hT] at ho
    cases ho
    exact absurd (show Value.type "list" = Value.type "set" from hx.1) (by decide)
  have ltT := Heap.lt_size hT
  unfold Builtin.List.listExtendWith
  refine wpAny_bind (wpAny_typeOf ty ?_)
  have h1 : Builtin.List.listSameRef (.ref T) (.ref S) = false := by simp [Builtin.List.listSameRef, Ne.symm nST]
  have h2 : (Value.type "set" == Value.type "list") = false := by decide
  have h3 : (Value.type "set" == Value.type "tuple") = false := by decide
  simp only [h1, h2, h3, Bool.or_false, Bool.false_eq_true, if_false]
  refine wpAny_bind (iter_setA hS fun I fp St P vs h' d' W hP pm hI hfp st k => ?_)
  have ty' : Shared.TypeIs { s with heap := h', drawn := d' } (.ref S) "set" := by
    obtain ⟨o, ho, hc⟩ := ty
    exact ⟨o, k _ _ ho, hc⟩
  refine wpAny_bind (wpAny_holding (hint_set ty' ?_))
  have nTf : T ∉ fp := fun z => by
    rcases hfp T z with e | e
    · exact nST e.symm
    · exact absurd ltT (Nat.not_lt.mpr e)
  have nTI : T ≠ I := fun e => absurd ltT (Nat.not_lt.mpr (by rw [e]; exact hI))
  have calm1 : A.in1.handled = none := calm
  have hlen : vs.length ≤ sizeLine := by
    have e : vs.length = us.length := by rw [pm.length_eq, List.length_map]
    rw [e]
    exact Nat.le_trans small (by decide)
  have gT : h'.get? T = some { cls := .type "list", data := .seq #[] c0 } := k _ _ hT
  have res1 : (false || [("set" : String), "frozenset", "dict", "dict_keys", "dict_values", "dict_items"].any (Value.type "set" == .type ·)) = true := by decide
  show wpAny _ _ (if (false || [("set" : String), "frozenset", "dict", "dict_keys", "dict_values", "dict_items"].any (Value.type "set" == .type ·)) = true then _ else _) _ _ _
  rw [if_pos res1]
  refine wpAny_bind (wpAny_rule (wpAny_bind ?_))
  show wpAny _ _ (updateSeq T (·.push .none) >>= fun _ => updateSeq T (·.pop)) _ _ _
  refine wpAny_bind (wpAny_updateSeq gT rfl ?_)
  have g2 := Heap.get?_update_self (Obj.mapSeq (·.push Value.none)) gT rfl
  refine wpAny_updateSeq (hz := by seq_fits) g2 rfl ?_
  have g3 := Heap.get?_update_self (Obj.mapSeq (·.pop)) g2 rfl
  have oth : ∀ b ob, b ≠ T → h'.get? b = some ob → ((h'.update T (Obj.mapSeq (·.push Value.none))).update T (Obj.mapSeq (·.pop))).get? b = some ob := fun b ob hb e =>
    (Heap.get?_update_other _ _ (Ne.symm hb)).trans ((Heap.get?_update_other _ _ (Ne.symm hb)).trans e)
  refine wpAny_pure ⟨plainId_quiet PySem.F.plain_extend_loop _, ?_⟩
  refine extend_by (W A.in1 calm1) hlen nTf res ((W A.in1 calm1).frame 0 { s with heap := h', drawn := d' } _ _ st (Nat.le_refl _) fun b hb ob e => oth b ob (fun z => nTf (by rw [← z]; exact hb)) e) g3 fun s' acc c' mv hL items => ?_
  have ea := items_list hP items
  refine hR s' acc c' () (fun b ob hb e => ?_) mv.gens mv.os hL (by rw [ea]; exact pm)
  have lb := Heap.lt_size e
  refine mv.heap b ob (fun z => ?_) (oth b ob hb (k b ob e))
  rcases List.mem_cons.mp z with z | z
  · exact hb z
  · rw [List.mem_singleton.mp z] at lb
    exact absurd lb (Nat.not_lt.mpr hI)
theorem collect_setA (calm : A.handled = none) {S : Addr} {us : List (List Int × Addr)} {Q : List Value → Shared → Prop} (hS : SetA prog w s.heap S (ledIn w) us) (small : us.length ≤ 1000)
    (h : ∀ (s' : Shared) (vs : List Value) (_ : Unit), (∀ b o, s.heap.get? b = some o → s'.heap.get? b = some o) → s'.gens = s.gens → s'.os = s.os → vs.Perm (us.map fun u => Value.ref u.2) → Q vs s') : wpAny (model prog w) A (collect (.ref S)) Q E s := by
  have oS : ∃ o, s.heap.get? S = some o := by
    obtain ⟨o, _, _, _, ho, _⟩ := hS
    exact ⟨o, ho⟩
  unfold collect
  refine wpAny_bind (wpAny_runValue (codeAny_builtin PySem.F.entry_proto_collect ?_))
  rw [Around.under_plainId PySem.F.plain_proto_collect _]
  show wpAny _ A.in1 (newList [] >>= fun l => again (.builtin "list.__iadd__" ⟨[l, .ref S], []⟩)) _ _ s
  refine wpAny_bind (wpAny_newObj_type (wpAny_pure ⟨plainId_quiet PySem.F.plain_list_iadd _, codeAny_builtin PySem.F.entry_list_iadd ?_⟩))
  rw [Around.under_plainId PySem.F.plain_list_iadd _]
  show wpAny _ A.in1 (Builtin.List.listExtendWith (.ref s.heap.objs.size) (.ref S) (.ref s.heap.objs.size)) _ _ _
  refine extend_setA (A := A) (R := fun r s' => match r with | .ok (.ret v) => wpAny (model prog w) A (match v with | .ref a => (do let o ← load a; match o.data with | .seq xs _ => pure xs.toList | _ => unsupported "internal:collect") | _ => unsupported "internal:collect") Q E s' | .ok _ => False | .error e => E e s') (s := { s with heap := s.heap.push { cls := .type "list", dict := none, data := .seq ([] : List Value).toArray } }) (c0 := 0) calm (.ref s.heap.objs.size) (hS.keep fun o e => Heap.get?_push_of_some _ e) small (Heap.get?_push_size s.heap rfl) fun s' acc c' ls k eg eo hL pm => ?_
  show wpAny _ A (load s.heap.objs.size >>= _) _ _ s'
  refine wpAny_bind (wpAny_load hL (wpAny_pure (h s' acc.toList () (fun b o e => k b o (Nat.ne_of_lt (Heap.lt_size e)) (Heap.get?_push_of_some _ e)) eg eo pm)))
end
end STab
namespace STab
open PySem PySem.W PyProof.Rows

def run (n : Nat) (lt : Nat → Nat → Bool) {α : Type} : KasT α → (α → Prop) → Prop
  | .ret a, Q => Q a
  | .ask i j k, Q => i < n ∧ j < n ∧ run n lt (k (lt i j)) Q
theorem run_bind {n : Nat} {lt : Nat → Nat → Bool} {α β : Type} {f : α → KasT β} {Q : β → Prop} : ∀ (t : KasT α), run n lt t (fun a => run n lt (f a) Q) → run n lt (t.bind f) Q
  | .ret _, h => h
  | .ask i j k, h => ⟨h.1, h.2.1, run_bind (k (lt i j)) h.2.2⟩
theorem run_mono {n : Nat} {lt : Nat → Nat → Bool} {α : Type} {Q Q' : α → Prop} (hq : ∀ a, Q a → Q' a) : ∀ (t : KasT α), run n lt t Q → run n lt t Q'
  | .ret a, h => hq a h
  | .ask i j k, h => ⟨h.1, h.2.1, run_mono hq (k (lt i j)) h.2.2⟩
structure Ord (n : Nat) (lt : Nat → Nat → Bool) : Prop where
  irr : ∀ i, i < n → lt i i = false
  trn : ∀ i j k, i < n → j < n → k < n → lt i j = true → lt j k = true → lt i k = true
  tot : ∀ i j, i < n → j < n → i ≠ j → lt i j = false → lt j i = true
def g (p : Array Nat) (i : Nat) : Nat := p.getD i 0
def Pm (n : Nat) (p : Array Nat) : Prop := p.toList.Perm (List.range n)
theorem Pm.sz {n : Nat} {p : Array Nat} (h : Pm n p) : p.size = n := by
  have := h.length_eq
  rw [List.length_range, Array.length_toList] at this
  exact this
theorem g_get {p : Array Nat} {i : Nat} (h : i < p.size) : g p i = p[i] := by simp [g, Array.getD, h]
theorem Pm.lt {n : Nat} {p : Array Nat} (h : Pm n p) {i : Nat} (hi : i < n) : g p i < n := by
  rw [g_get (by rw [h.sz]; exact hi)]
  have : p[i]'(by rw [h.sz]; exact hi) ∈ p.toList := by rw [← Array.getElem_toList]; exact List.getElem_mem _
  exact List.mem_range.mp (h.mem_iff.mp this)
theorem Pm.inj {n : Nat} {p : Array Nat} (h : Pm n p) {i j : Nat} (hi : i < n) (hj : j < n) (e : g p i = g p j) : i = j := by
  have nd : p.toList.Nodup := h.nodup_iff.mpr List.nodup_range
  rw [g_get (by rw [h.sz]; exact hi), g_get (by rw [h.sz]; exact hj)] at e
  have a : i < p.toList.length := by rw [Array.length_toList, h.sz]; exact hi
  have b : j < p.toList.length := by rw [Array.length_toList, h.sz]; exact hj
  have e' : p.toList[i] = p.toList[j] := by simpa using e
  exact (List.getElem_inj nd).mp e'
theorem Pm.perm {n : Nat} {p q : Array Nat} (h : Pm n p) (e : q.Perm p) : Pm n q := (Array.perm_iff_toList_perm.mp e).trans h
def AscP (lt : Nat → Nat → Bool) (p : Array Nat) (m : Nat) : Prop := ∀ i j, i < j → j < m → lt (g p i) (g p j) = true
def DesP (lt : Nat → Nat → Bool) (p : Array Nat) (m : Nat) : Prop := ∀ i j, i < j → j < m → lt (g p j) (g p i) = true
section
variable {n : Nat} {lt : Nat → Nat → Bool} (O : Ord n lt)
include O
theorem asc_more {p : Array Nat} (P : Pm n p) {m : Nat} (h1 : 1 ≤ m) (hm : m < n) (h : AscP lt p m) (e : lt (g p m) (g p (m - 1)) = false) : AscP lt p (m + 1) := by
  have top : lt (g p (m - 1)) (g p m) = true := O.tot _ _ (P.lt hm) (P.lt (by omega)) (fun z => by have := P.inj hm (show m - 1 < n by omega) z; omega) e
  intro i j hij hj
  by_cases z : j = m
  · subst z
    by_cases z2 : i = j - 1
    · subst z2; exact top
    · exact O.trn _ (g p (j - 1)) _ (P.lt (by omega)) (P.lt (by omega)) (P.lt hm) (h i (j - 1) (by omega) (by omega)) top
  · exact h i j hij (by omega)
theorem des_more {p : Array Nat} (P : Pm n p) {m : Nat} (h1 : 1 ≤ m) (hm : m < n) (h : DesP lt p m) (e : lt (g p m) (g p (m - 1)) = true) : DesP lt p (m + 1) := by
  intro i j hij hj
  by_cases z : j = m
  · subst z
    by_cases z2 : i = j - 1
    · subst z2; exact e
    · exact O.trn _ (g p (j - 1)) _ (P.lt hm) (P.lt (by omega)) (P.lt (by omega)) e (h i (j - 1) (by omega) (by omega))
  · exact h i j hij (by omega)
theorem asc_run {p : Array Nat} (P : Pm n p) : ∀ (f k : Nat), 1 ≤ k → k + f ≤ n → AscP lt p k → run n lt (kas_asc p f k) fun m => k ≤ m ∧ m ≤ k + f ∧ AscP lt p m ∧ (m = k + f ∨ lt (g p m) (g p (m - 1)) = true)
  | 0, k, h1, h2, h => ⟨Nat.le_refl _, Nat.le_refl _, h, .inl rfl⟩
  | f + 1, k, h1, h2, h => by
    refine ⟨P.lt (by omega), P.lt (by omega), ?_⟩
    show run n lt (if lt (g p k) (g p (k - 1)) = true then .ret k else kas_asc p f (k + 1)) _
    cases e : lt (g p k) (g p (k - 1)) with
    | true => exact ⟨Nat.le_refl _, by omega, h, .inr e⟩
    | false =>
      rw [if_neg Bool.false_ne_true]
      refine run_mono (fun m hm => ?_) _ (asc_run P f (k + 1) (by omega) (by omega) (asc_more O P h1 (by omega) h e))
      exact ⟨by omega, by omega, hm.2.2.1, hm.2.2.2.imp (fun z => by omega) fun z => z⟩
theorem des_run {p : Array Nat} (P : Pm n p) : ∀ (f k : Nat), 1 ≤ k → k + f ≤ n → DesP lt p k → run n lt (kas_desc f p k 0) fun r => r.1 = p ∧ r.2.2 = 0 ∧ k ≤ r.2.1 ∧ r.2.1 ≤ k + f ∧ DesP lt p r.2.1
  | 0, k, h1, h2, h => ⟨rfl, rfl, Nat.le_refl _, Nat.le_refl _, h⟩
  | f + 1, k, h1, h2, h => by
    refine ⟨P.lt (by omega), P.lt (by omega), ?_⟩
    show run n lt (if lt (g p k) (g p (k - 1)) = true then (if 0 > 0 then kas_desc f (kas_rev p (k - (0 + 1)) k) (k + 1) 0 else kas_desc f p (k + 1) 0)
      else .ask (p.getD (k - 1) 0) (p.getD k 0) fun d => if d = true then .ret (p, k, 0) else kas_desc f p (k + 1) (0 + 1)) _
    cases e : lt (g p k) (g p (k - 1)) with
    | true =>
      rw [if_pos rfl, if_neg (by omega)]
      refine run_mono (fun r hr => ?_) _ (des_run P f (k + 1) (by omega) (by omega) (des_more O P h1 (by omega) h e))
      exact ⟨hr.1, hr.2.1, by omega, by omega, hr.2.2.2.2⟩
    | false =>
      rw [if_neg Bool.false_ne_true]
      refine ⟨P.lt (by omega), P.lt (by omega), ?_⟩
      have top : lt (g p (k - 1)) (g p k) = true := O.tot _ _ (P.lt (by omega)) (P.lt (by omega)) (fun z => by have := P.inj (show k < n by omega) (show k - 1 < n by omega) z; omega) e
      show run n lt (if lt (g p (k - 1)) (g p k) = true then .ret (p, k, 0) else kas_desc f p (k + 1) (0 + 1)) _
      rw [top, if_pos rfl]
      exact ⟨rfl, rfl, Nat.le_refl _, Nat.le_add_right k (f + 1), h⟩
theorem rev_asc {p : Array Nat} (P : Pm n p) {m : Nat} (hm : m ≤ n) (h : DesP lt p m) : Pm n (kas_rev p 0 m) ∧ AscP lt (kas_rev p 0 m) m := by
  have hz : m ≤ p.size := by rw [P.sz]; exact hm
  have gm : ∀ i, i < m → g (kas_rev p 0 m) i = g p (m - 1 - i) := fun i hi => by
    have e := getElem?_mirror_all (xs := p) (i := 0) (j := m) hz i
    have sz : (kas_rev p 0 m).size = p.size := kas_rev_size 0 m
    rw [g_get (by omega), g_get (by omega)]
    have e1 : (kas_rev p 0 m)[i]? = p[m - 1 - i]? := by
      have : kas_rev p 0 m = mirror p 0 m ((m - 0) / 2) := rfl
      rw [this, e, if_pos ⟨Nat.zero_le _, hi⟩]
      congr 1
      omega
    rw [Array.getElem?_eq_getElem (by omega), Array.getElem?_eq_getElem (by omega)] at e1
    exact Option.some.inj e1
  refine ⟨P.perm (mirror_perm _ _ _ _), fun i j hij hj => ?_⟩
  rw [gm i (by omega), gm j hj]
  exact h (m - 1 - j) (m - 1 - i) (by omega) (by omega)
theorem count_run {p : Array Nat} (P : Pm n p) (h2 : 2 ≤ n) : run n lt (kas_count n p) fun r => Pm n r.2 ∧ 1 ≤ r.1 ∧ r.1 ≤ n ∧ AscP lt r.2 r.1 := by
  unfold kas_count
  refine run_bind _ (run_mono (fun m hm => ?_) _ (asc_run O P (n - 1) 1 (Nat.le_refl _) (by omega) (fun i j a b => by omega)))
  obtain ⟨m1, m2, m3, m4⟩ := hm
  by_cases z : m = n
  · subst z
    rw [if_pos (by simp)]
    exact ⟨P, m1, Nat.le_refl _, m3⟩
  · rw [if_neg (by simpa using z)]
    by_cases z1 : m > 1
    · rw [if_pos z1]
      refine ⟨P.lt (by omega), P.lt (by omega), ?_⟩
      show run n lt (if lt (g p 0) (g p (m - 1)) = true then _ else _) _
      rw [m3 0 (m - 1) (by omega) (by omega), if_pos rfl]
      exact ⟨P, m1, by omega, m3⟩
    · rw [if_neg z1]
      have e1 : m = 1 := by omega
      subst e1
      have top : lt (g p 1) (g p 0) = true := by
        rcases m4 with z2 | z2
        · omega
        · exact z2
      unfold kas_descPart
      have d2 : DesP lt p (1 + 1) := fun i j a b => by
        have : i = 0 := by omega
        have : j = 1 := by omega
        subst i; subst j
        exact top
      refine run_bind _ (run_mono (fun r hr => ?_) _ (des_run O P (n - (1 + 1)) (1 + 1) (by omega) (by omega) d2))
      obtain ⟨r1, r2, r3, r4, r5⟩ := hr
      rw [if_neg (by omega), r1]
      obtain ⟨P', A'⟩ := rev_asc O P (show r.2.1 ≤ n by omega) r5
      unfold kas_tail3
      refine run_bind _ (run_mono (fun m hm => ?_) _ (asc_run O P' (n - r.2.1) r.2.1 (by omega) (by omega) A'))
      exact ⟨P', by omega, by omega, hm.2.2.1⟩
theorem place_run {p : Array Nat} (P : Pm n p) {k : Nat} (hk : k < n) (h : AscP lt p k) : ∀ (f l r : Nat), r - l ≤ f → l ≤ r → r ≤ k → (∀ i, i < l → lt (g p i) (g p k) = true) → (∀ i, r ≤ i → i < k → lt (g p k) (g p i) = true) →
    run n lt (kas_place p k f l r) fun x => x ≤ k ∧ (∀ i, i < x → lt (g p i) (g p k) = true) ∧ ∀ i, x ≤ i → i < k → lt (g p k) (g p i) = true
  | 0, l, r, h1, h2, h3, h4, h5 => ⟨by omega, h4, fun i a b => h5 i (by omega) b⟩
  | f + 1, l, r, h1, h2, h3, h4, h5 => by
    unfold kas_place
    by_cases z : l ≥ r
    · rw [if_pos z]
      exact ⟨by omega, h4, fun i a b => h5 i (by omega) b⟩
    · rw [if_neg z]
      have hm : (l + r) / 2 < k := by omega
      refine ⟨P.lt hk, P.lt (by omega), ?_⟩
      show run n lt (if lt (g p k) (g p ((l + r) / 2)) = true then kas_place p k f l ((l + r) / 2) else kas_place p k f ((l + r) / 2 + 1) r) _
      cases e : lt (g p k) (g p ((l + r) / 2)) with
      | true =>
        rw [if_pos rfl]
        refine place_run P hk h f l ((l + r) / 2) (by omega) (by omega) (by omega) h4 fun i a b => ?_
        by_cases z2 : i = (l + r) / 2
        · rw [z2]; exact e
        · exact O.trn _ (g p ((l + r) / 2)) _ (P.lt hk) (P.lt (by omega)) (P.lt (by omega)) e (h _ i (by omega) b)
      | false =>
        rw [if_neg Bool.false_ne_true]
        have top : lt (g p ((l + r) / 2)) (g p k) = true := O.tot _ _ (P.lt hk) (P.lt (by omega)) (fun q => by have := P.inj hk (show (l + r) / 2 < n by omega) q; omega) e
        refine place_run P hk h f ((l + r) / 2 + 1) r (by omega) (by omega) h3 (fun i a => ?_) h5
        by_cases z2 : i = (l + r) / 2
        · rw [z2]; exact top
        · exact O.trn _ (g p ((l + r) / 2)) _ (P.lt (by omega)) (P.lt (by omega)) (P.lt hk) (h i _ (by omega) hm) top
theorem bubble_asc {p : Array Nat} (P : Pm n p) {k x : Nat} (hk : k < n) (h : AscP lt p k) (hx : x ≤ k) (h1 : ∀ i, i < x → lt (g p i) (g p k) = true) (h2 : ∀ i, x ≤ i → i < k → lt (g p k) (g p i) = true) :
    Pm n (bubble p k (k - x)) ∧ AscP lt (bubble p k (k - x)) (k + 1) := by
  have hs : k < p.size := by rw [P.sz]; exact hk
  have gb : ∀ i, i < n → g (bubble p k (k - x)) i = if i = x then g p k else if x < i ∧ i ≤ k then g p (i - 1) else g p i := fun i hi => by
    have e := getElem?_bubble hs (k - x) (by omega) i
    have sz := bubble_size p k (k - x)
    have si : i < p.size := by rw [P.sz]; exact hi
    rw [g_get (by omega)]
    rw [Array.getElem?_eq_getElem (by omega)] at e
    have ex : k - (k - x) = x := by omega
    rw [ex] at e
    by_cases c1 : i = x
    · rw [if_pos c1] at e ⊢
      rw [g_get hs]
      rw [Array.getElem?_eq_getElem hs] at e
      exact Option.some.inj e
    · rw [if_neg c1] at e ⊢
      by_cases c2 : x < i ∧ i ≤ k
      · rw [if_pos c2] at e ⊢
        rw [g_get (by omega)]
        rw [Array.getElem?_eq_getElem (by omega)] at e
        exact Option.some.inj e
      · rw [if_neg c2] at e ⊢
        rw [g_get si]
        rw [Array.getElem?_eq_getElem si] at e
        exact Option.some.inj e
  refine ⟨P.perm (bubble_perm _ _ _), fun i j hij hj => ?_⟩
  rw [gb i (by omega), gb j (by omega)]
  by_cases c1 : j = x
  · rw [if_neg (show ¬ i = x by omega), if_neg (show ¬ (x < i ∧ i ≤ k) by omega), if_pos c1]
    exact h1 i (by omega)
  · rw [if_neg c1]
    by_cases c2 : x < j ∧ j ≤ k
    · rw [if_pos c2]
      by_cases c3 : i = x
      · rw [if_pos c3]
        exact h2 (j - 1) (by omega) (by omega)
      · rw [if_neg c3]
        by_cases c4 : x < i ∧ i ≤ k
        · rw [if_pos c4]
          exact h (i - 1) (j - 1) (by omega) (by omega)
        · rw [if_neg c4]
          exact h i (j - 1) (by omega) (by omega)
    · rw [if_neg c2, if_neg (show ¬ i = x by omega), if_neg (show ¬ (x < i ∧ i ≤ k) by omega)]
      exact h i j hij (by omega)
theorem bin_run : ∀ (f : Nat) (p : Array Nat) (k : Nat), Pm n p → k + f = n → AscP lt p k → run n lt (kas_bin f p k) fun q => Pm n q ∧ AscP lt q n
  | 0, p, k, P, hk, h => ⟨P, by rw [← hk]; exact h⟩
  | f + 1, p, k, P, hk, h => by
    unfold kas_bin
    refine run_bind _ (run_mono (fun x hx => ?_) _ (place_run O P (show k < n by omega) h k 0 k (by omega) (Nat.zero_le _) (Nat.le_refl _) (fun i a => by omega) fun i a b => by omega))
    obtain ⟨P', A'⟩ := bubble_asc O P (show k < n by omega) h hx.1 hx.2.1 hx.2.2
    exact bin_run f _ (k + 1) P' (by omega) A'
theorem sort_run (h2 : 2 ≤ n) : run n lt (kas_sort n) fun p => Pm n p ∧ AscP lt p n := by
  unfold kas_sort
  have P0 : Pm n (List.toArray (List.range n)) := List.Perm.refl _
  refine run_bind _ (run_mono (fun r hr => ?_) _ (count_run O P0 h2))
  obtain ⟨r1, r2, r3, r4⟩ := hr
  have em : max r.1 1 = r.1 := by omega
  by_cases z : r.1 < n
  · rw [if_pos z, em]
    exact bin_run O _ _ _ r1 (by omega) r4
  · rw [if_neg z]
    have : r.1 = n := by omega
    rw [this] at r4
    exact ⟨r1, r4⟩
end
end STab
namespace STab
open PySem PySem.W PyProof.Rows

theorem lexSelf : ∀ xs : List Int, HT.lexLt xs xs = false
  | [] => rfl
  | x :: xs => by rw [HT.lexLt_cons, if_pos rfl]; exact lexSelf xs
theorem lexTrans : ∀ {xs ys zs : List Int}, HT.lexLt xs ys = true → HT.lexLt ys zs = true → HT.lexLt xs zs = true
  | [], [], _, h, _ => by cases h
  | [], _ :: _, [], _, h => by cases h
  | [], _ :: _, _ :: _, _, _ => rfl
  | _ :: _, [], _, h, _ => by cases h
  | _ :: _, _ :: _, [], _, h => by cases h
  | x :: xs, y :: ys, z :: zs, h1, h2 => by
    rw [HT.lexLt_cons] at h1 h2 ⊢
    by_cases e1 : x = y
    · by_cases e2 : y = z
      · rw [if_pos e1] at h1
        rw [if_pos e2] at h2
        rw [if_pos (e1.trans e2)]
        exact lexTrans h1 h2
      · rw [if_neg e2] at h2
        rw [if_neg (by rw [e1]; exact e2), e1]
        exact h2
    · rw [if_neg e1] at h1
      have l1 := of_decide_eq_true h1
      by_cases e2 : y = z
      · rw [← e2, if_neg e1]
        exact h1
      · rw [if_neg e2] at h2
        have l2 := of_decide_eq_true h2
        rw [if_neg (by omega)]
        exact decide_eq_true (by omega)
theorem lexTot : ∀ {xs ys : List Int}, xs ≠ ys → HT.lexLt xs ys = false → HT.lexLt ys xs = true
  | [], [], h, _ => absurd rfl h
  | [], _ :: _, _, h => by cases h
  | _ :: _, [], _, _ => rfl
  | x :: xs, y :: ys, h, e => by
    rw [HT.lexLt_cons] at e ⊢
    by_cases c : x = y
    · rw [if_pos c] at e
      rw [if_pos c.symm]
      exact lexTot (fun z => h (by rw [c, z])) e
    · rw [if_neg c] at e
      have := of_decide_eq_false e
      rw [if_neg (Ne.symm c)]
      exact decide_eq_true (by omega)
def lexF (fin : Bool) : List Int → List Int → Bool
  | k :: ks, l :: ls => if k = l then lexF fin ks ls else decide (k < l)
  | [], _ => fin
  | _, [] => fin
theorem lexF_is (c : Nat) : ∀ (a b : List Int), lexF (decide (c + a.length < c + b.length)) a b = HT.lexLt a b
  | [], [] => by simp [lexF, HT.lexLt]
  | [], _ :: _ => by simp [lexF, HT.lexLt]
  | _ :: _, [] => by simp [lexF, HT.lexLt]
  | x :: xs, y :: ys => by
    rw [HT.lexLt_cons, lexF]
    by_cases e : x = y
    · rw [if_pos e, if_pos e, ← lexF_is (c + 1) xs ys]
      congr 2
      simp only [List.length_cons]
      exact propext ⟨fun h => by omega, fun h => by omega⟩
    · rw [if_neg e, if_neg e]
section
variable {prog : Program} {w : World} {A : Around} {E : Value → Shared → Prop} {s : Shared}
theorem one_lt_int {b : Bool} {x y : Int} {t u : Tok} {Q : Bool → Shared → Prop} {E : Value → Shared → Prop} (h : Q (decide (x < y)) s) : wpAny (model prog w) A (oneLt' b (.int x t) (.int y u)) Q E s := by
  cases b with
  | true => exact kat_lt_int h
  | false => exact kat_one _ _ (lt_int h)
theorem kat_ints {fin : Bool} {Q : Bool → Shared → Prop} : ∀ {ks ls : List Int} {vs ws : List Value} (i : Nat), ItemsAre (intKind prog w) ks vs → ItemsAre (intKind prog w) ls ws → Q (lexF fin ks ls) s → KatLex prog w A true fin Q (vs.zip ws) i s
  | _, _, _, _, i, .nil, _, h => by
    rw [List.zip_nil_left]
    exact kat_nil (by unfold lexF at h; exact h)
  | _, _, _, _, i, .cons h1 t1, .nil, h => by
    rw [List.zip_nil_right]
    exact kat_nil (by unfold lexF at h; exact h)
  | k :: ks, l :: ls, v :: vs, w' :: ws, i, .cons h1 t1, .cons h2 t2, h => by
    rw [List.zip_cons_cons]
    obtain ⟨tk, rfl⟩ := Value.isInt_shape (k := k) (v := v) h1
    obtain ⟨tl, rfl⟩ := Value.isInt_shape (k := l) (v := w') h2
    refine kat_cons ((intKind prog w).eqBool (a := k) (b := l) h1 h2 ?_)
    rw [lexF] at h
    by_cases e : k = l
    · rw [decide_eq_true e]
      rw [if_pos e] at h
      exact kat_yes (kat_ints (i + 1) t1 t2 h)
    · rw [decide_eq_false e]
      rw [if_neg e] at h
      exact kat_no (one_lt_int h)
theorem ask_tup {k l : List Int} {a b : Addr} {Q : Bool → Shared → Prop} {E : Value → Shared → Prop} (hk : TK prog w s.heap k a) (hl : TK prog w s.heap l b) (h : Q (HT.lexLt k l) s) : wpAny (model prog w) A (keyLt' (tuples' true) (.ref a) (.ref b)) Q E s := by
  obtain ⟨o, xs, n, ho, _, hd, hi⟩ := hk
  obtain ⟨o2, ys, n2, ho2, _, hd2, hi2⟩ := hl
  refine kat_lt ho hd ho2 hd2 (kat_ints 0 hi hi2 ?_)
  have ln : ∀ {ks : List Int} {vs : List Value}, ItemsAre (intKind prog w) ks vs → ks.length = vs.length := by
    intro ks vs h
    induction h with
    | nil => rfl
    | cons _ _ ih => rw [List.length_cons, List.length_cons, ih]
  have e1 : k.length = xs.size := by
    have := ln hi
    have z : xs.toList.length = xs.size := by simp
    omega
  have e2 : l.length = ys.size := by
    have := ln hi2
    have z : ys.toList.length = ys.size := by simp
    omega
  have := lexF_is 0 k l
  rw [Nat.zero_add, Nat.zero_add, e1, e2] at this
  rw [this]
  exact h
theorem run_wp {n : Nat} {lt : Nat → Nat → Bool} {κ : SortKind} {vs : List Value} (hc : ∀ i j, i < n → j < n → ∀ C : Bool → Shared → Prop, C (lt i j) s → kas_ask prog w A κ vs i j C s) {α : Type} {Q : α → Prop} : ∀ (t : KasT α), run n lt t Q → t.kasWp (kas_ask prog w A κ vs) (fun a s' => s' = s ∧ Q a) s
  | .ret a, h => ⟨rfl, h⟩
  | .ask i j k, h => hc i j h.1 h.2.1 _ (run_wp hc (k (lt i j)) h.2.2)
end
theorem perm_map_inv {α β : Type} {f : α → β} {l1 l2 : List β} (h : l1.Perm l2) : ∀ us : List α, us.map f = l1 → ∃ us' : List α, us'.Perm us ∧ us'.map f = l2 := by
  induction h with
  | nil => exact fun us e => ⟨us, List.Perm.refl _, e⟩
  | cons x _ ih =>
    intro us e
    cases us with
    | nil => cases e
    | cons u us =>
      rw [List.map_cons, List.cons.injEq] at e
      obtain ⟨us', p, q⟩ := ih us e.2
      exact ⟨u :: us', p.cons u, by rw [List.map_cons, q, e.1]⟩
  | swap x y l =>
    intro us e
    match us, e with
    | u :: v :: us, e =>
      rw [List.map_cons, List.map_cons, List.cons.injEq, List.cons.injEq] at e
      exact ⟨v :: u :: us, List.Perm.swap u v us, by rw [List.map_cons, List.map_cons, e.1, e.2.1, e.2.2]⟩
  | trans _ _ ih1 ih2 =>
    intro us e
    obtain ⟨us1, p1, q1⟩ := ih1 us e
    obtain ⟨us2, p2, q2⟩ := ih2 us1 q1
    exact ⟨us2, p2.trans p1, q2⟩
def refs (us : List (List Int × Addr)) : List Value := us.map fun u => Value.ref u.2
def LexUp (us : List (List Int × Addr)) : Prop := us.Pairwise fun u v => HT.lexLt u.1 v.1 = true
section
variable {prog : Program} {w : World} {A : Around} {E : Value → Shared → Prop} {s : Shared}
theorem tup_list_sort {a : Addr} {us : List (List Int × Addr)} {n : Nat} {P : PySem.Fin → Shared → Prop} (ho : s.heap.get? a = some (seqObj "list" (refs us).toArray n)) (h64 : us.length < 64) (nd : (us.map (·.1)).Nodup)
    (ne : ∀ u ∈ us, 2 ≤ us.length → u.1 ≠ []) (hT : ∀ u ∈ us, TK prog w s.heap u.1 u.2)
    (h : ∀ us' : List (List Int × Addr), us'.Perm us → LexUp us' → P (.done (.ret .none)) { s with heap := sortedHeap s.heap a (refs us) (refs us').toArray }) :
    wpAny (model prog w) A (Builtin.«list.sort» ⟨[.ref a], []⟩) P E s := by
  have hl : (refs us).length = us.length := List.length_map _
  have ha : a < s.heap.objs.size := Heap.lt_size ho
  have nea : ∀ u ∈ us, u.2 ≠ a := fun u hu z => by
    obtain ⟨o, _, _, ho2, hc, _⟩ := hT u hu
    rw [z, ho] at ho2
    cases ho2
    exact absurd (show Value.type "list" = Value.type "tuple" from hc) (by decide)
  rw [list_sort_plain]
  refine wpAny_bind (listItems_at ho rfl ?_)
  refine wpAny_bind (listUpdate_at ho rfl ?_ (by rw [List.size_toArray, hl, sizeLine_eq]; omega) (Nat.zero_le _))
  obtain ⟨e1, ho1⟩ : ∃ e1, (s.heap.update a (Obj.mapSeq fun _ => #[])).get? a = some (seqObj "list" #[] e1) := ⟨_, get?_update_seq ho (fun _ => #[])⟩
  refine wpAny_bind (seqEpoch_at ho1 rfl ?_)
  refine wpAny_bind (wpAny_newTuple ?_ (by show (refs us).length ≤ _; rw [hl, sizeLine_eq]; omega))
  refine wpAny_bind (wpAny_newList ?_ (Nat.zero_le _))
  refine wpAny_holding ?_
  have ho6 : (((s.heap.update a (Obj.mapSeq fun _ => #[])).push (seqObj "tuple" (refs us).toArray 0)).push (seqObj "list" #[] 0)).get? a = some (seqObj "list" #[] e1) := by
    rw [Heap.get?_push_ne _ _ _ (by rw [size_push', Heap.size_update]; exact Nat.ne_of_lt (Nat.lt_succ_of_lt ha)), Heap.get?_push_ne _ _ _ (by rw [Heap.size_update]; exact Nat.ne_of_lt ha)]
    exact ho1
  have oth : ∀ b o, b ≠ a → s.heap.get? b = some o → (((s.heap.update a (Obj.mapSeq fun _ => #[])).push (seqObj "tuple" (refs us).toArray 0)).push (seqObj "list" #[] 0)).get? b = some o := fun b o hb e =>
    Heap.get?_push_of_some _ (Heap.get?_push_of_some _ ((Heap.get?_update_other _ _ (Ne.symm hb)).trans e))
  show wpAny (model prog w) A _ P E { s with heap := ((s.heap.update a (Obj.mapSeq fun _ => #[])).push (seqObj "tuple" (refs us).toArray 0)).push (seqObj "list" #[] 0) }
  dsimp only
  have hsz : (refs us).toArray.size = us.length := by rw [List.size_toArray, hl]
  by_cases h2 : (refs us).toArray.size < 2
  · rw [if_pos h2, if_pos h2]
    refine wpAny_bind (wpAny_pure ?_)
    rw [StateT.run_pure]
    refine wpAny_bind (wpAny_pure ?_)
    dsimp only
    refine wpAny_bind (seqEpoch_at ho6 rfl ?_)
    have ep : (arrOf (SortSt.mk' general' ((refs us).toArray.zip (refs us).toArray) #[] 7 none)).map (·.2) = (refs us).toArray := by
      show ((refs us).toArray.zip (refs us).toArray).map (·.2) = _
      apply Array.toList_inj.mp
      simp [List.map_snd_zip]
    rw [ep]
    refine wpAny_bind (listUpdate_at ho6 rfl ?_ (hsz2 := by rw [hsz, sizeLine_eq]; omega))
    simp only [bne_self_eq_false, Bool.false_eq_true, if_false]
    refine wpAny_pure (h us (List.Perm.refl _) ?_)
    match us, hsz, h2 with
    | [], _, _ => exact List.Pairwise.nil
    | [u], _, _ => exact List.pairwise_singleton _ _
    | _ :: _ :: _, q, h2 => rw [q] at h2; simp at h2; omega
  · rw [if_neg h2, if_neg h2]
    rw [hsz] at h2
    have h2' : 2 ≤ us.length := by omega
    have tk6 : ∀ u ∈ us, TK prog w (((s.heap.update a (Obj.mapSeq fun _ => #[])).push (seqObj "tuple" (refs us).toArray 0)).push (seqObj "list" #[] 0)) u.1 u.2 := fun u hu => tk_keep (hT u hu) fun o e => oth _ o (nea u hu) e
    -- the kind of the keys
    have kt : ∀ l : List (List Int × Addr), (∀ u ∈ l, u ∈ us) → ∃ fs, KatTups (((s.heap.update a (Obj.mapSeq fun _ => #[])).push (seqObj "tuple" (refs us).toArray 0)).push (seqObj "list" #[] 0)) (refs l) fs ∧ fs.length = l.length ∧ ∀ v ∈ fs, ∃ i t, v = Value.int i t := by
      intro l
      induction l with
      | nil => exact fun _ => ⟨[], KatTups.nil, rfl, fun v hv => by cases hv⟩
      | cons u l ih =>
        intro hs
        obtain ⟨fs, f1, f2, f3⟩ := ih fun v hv => hs v (List.mem_cons_of_mem _ hv)
        have hu := hs u (List.mem_cons_self ..)
        obtain ⟨o, xs, k, q1, q2, q3, q4⟩ := tk6 u hu
        have hne := ne u hu h2'
        have q5 := items_ints q4
        cases hx : xs.toList with
        | nil =>
          rw [hx] at q4
          cases hk : u.1 with
          | nil => exact absurd hk hne
          | cons c ks => rw [hk] at q4; cases q4
        | cons f r =>
          have hf : xs[0]? = some f := by rw [← Array.getElem?_toList, hx]; rfl
          refine ⟨f :: fs, KatTups.cons q1 q2 q3 hf f1, by rw [List.length_cons, List.length_cons, f2], fun v hv => ?_⟩
          rcases List.mem_cons.mp hv with e | e
          · rw [e]; exact q5 f (by rw [hx]; exact List.mem_cons_self ..)
          · exact f3 v e
    obtain ⟨fs, kt1, kt2, kt3⟩ := kt us fun u hu => hu
    refine wpAny_bind (kat_kind (T := Value.type "int") kt1 (by omega) (fun v hv => ?_) (by decide) ?_)
    · obtain ⟨i, t, rfl⟩ := kt3 v hv
      exact .now
    have O : Ord us.length fun i j => HT.lexLt (us.getD i ([], 0)).1 (us.getD j ([], 0)).1 := by
      refine ⟨fun i _ => lexSelf _, fun i j k _ _ _ => lexTrans, fun i j hi hj hij => lexTot fun e => hij ?_⟩
      have gi : ∀ i (h : i < us.length), (us.getD i ([], 0)).1 = (us.map (·.1))[i]'(by rw [List.length_map]; exact h) := fun i h => by simp [h]
      rw [gi i hi, gi j hj] at e
      exact (List.getElem_inj nd).mp e
    have sr := sort_run O h2'
    have asks : ∀ i j, i < us.length → j < us.length → ∀ C : Bool → Shared → Prop, C (HT.lexLt (us.getD i ([], 0)).1 (us.getD j ([], 0)).1) { s with heap := ((s.heap.update a (Obj.mapSeq fun _ => #[])).push (seqObj "tuple" (refs us).toArray 0)).push (seqObj "list" #[] 0) } →
        kas_ask prog w A (tuples' (Value.type "int" != Value.type "tuple")) (refs us) i j C { s with heap := ((s.heap.update a (Obj.mapSeq fun _ => #[])).push (seqObj "tuple" (refs us).toArray 0)).push (seqObj "list" #[] 0) } := by
      intro i j hi hj C hC
      have gv : ∀ i, i < us.length → (refs us).getD i Value.none = .ref (us.getD i ([], 0)).2 := fun i h => by simp [refs, h]
      have gm : ∀ i, i < us.length → us.getD i ([], 0) ∈ us := fun i h => by
        rw [List.getD_eq_getElem?_getD, List.getElem?_eq_getElem h]
        exact List.getElem_mem _
      unfold kas_ask
      rw [gv i hi, gv j hj]
      exact ask_tup (s := { s with heap := ((s.heap.update a (Obj.mapSeq fun _ => #[])).push (seqObj "tuple" (refs us).toArray 0)).push (seqObj "list" #[] 0) }) (tk6 _ (gm i hi)) (tk6 _ (gm j hj)) hC
    have rw1 := run_wp (s := { s with heap := ((s.heap.update a (Obj.mapSeq fun _ => #[])).push (seqObj "tuple" (refs us).toArray 0)).push (seqObj "list" #[] 0) }) asks _ sr
    have hl2 : (kas_sort (refs us).length) = kas_sort us.length := by rw [hl]
    rw [← hl2] at rw1
    refine wpAny_bind (wpAny_mono (kat_run (ks := refs us) (vs := refs us) (Q := fun st' s' => ∃ p : Array Nat, arrOf st' = p.map (kas_item ((refs us).toArray.zip (refs us).toArray)) ∧ failedOf st' = none ∧ s' = { s with heap := ((s.heap.update a (Obj.mapSeq fun _ => #[])).push (seqObj "tuple" (refs us).toArray 0)).push (seqObj "list" #[] 0) } ∧ Pm us.length p ∧ AscP (fun i j => HT.lexLt (us.getD i ([], 0)).1 (us.getD j ([], 0)).1) p us.length)
      rfl (by rw [hl]; exact h2') (by rw [hl]; exact h64) (fun p st' s' a1 a2 a3 a4 => ⟨p, a2, a3, a4.1, a4.2.1, a4.2.2⟩) rw1) ?_ fun _ _ e => e)
    rintro ⟨⟨⟩, st'⟩ s' ⟨p, har, hf, rfl, hp, hasc⟩
    dsimp only
    have hout := kat_snds (ks := refs us) (vs := refs us) rfl har
    have hus : (p.toList.map fun i => (refs us).getD i Value.none) = refs (p.toList.map fun i => us.getD i ([], 0)) := by
      unfold refs
      rw [List.map_map]
      refine List.map_congr_left fun i hi => ?_
      have : i < us.length := List.mem_range.mp (hp.mem_iff.mp hi)
      simp [this]
    rw [hout, hus]
    have plen : p.toList.length = us.length := by rw [hp.length_eq, List.length_range]
    refine wpAny_bind (seqEpoch_at ho6 rfl ?_)
    refine wpAny_bind (listUpdate_at ho6 rfl ?_ (hsz2 := by rw [List.size_toArray]; unfold refs; rw [List.length_map, List.length_map, plen, sizeLine_eq]; omega))
    rw [hf]
    simp only [bne_self_eq_false, Bool.false_eq_true, if_false]
    refine wpAny_pure (h _ ?_ ?_)
    · refine (hp.map fun i => us.getD i ([], 0)).trans (List.Perm.of_eq ?_)
      refine List.ext_getElem (by simp) fun i h1 h2 => ?_
      have hi : i < us.length := by simpa using h2
      simp [hi]
    · unfold LexUp
      rw [List.pairwise_map, List.pairwise_iff_getElem]
      intro i j hi hj hij
      have hi' : i < us.length := by omega
      have hj' : j < us.length := by omega
      have q := hasc i j hij hj'
      rw [g_get (by rw [hp.sz]; exact hi'), g_get (by rw [hp.sz]; exact hj')] at q
      simpa using q
end
end STab
namespace STab
open PySem PySem.W PyProof.Rows
theorem addT_nodup {us : List (List Int × Addr)} {u : List Int × Addr} (h : (us.map (·.1)).Nodup) : ((addT us u).map (·.1)).Nodup := by
  unfold addT
  split
  · exact h
  · next q => rw [List.map_cons]; exact List.nodup_cons.mpr ⟨q, h⟩
theorem addT_keys {us : List (List Int × Addr)} {u : List Int × Addr} {k : List Int} : k ∈ (addT us u).map (·.1) ↔ k = u.1 ∨ k ∈ us.map (·.1) := by
  unfold addT
  split
  · next q =>
    constructor
    · exact fun h => .inr h
    · rintro (h | h)
      · rw [h]; exact q
      · exact h
  · rw [List.map_cons, List.mem_cons]
theorem adds_nodup : ∀ (vs us : List (List Int × Addr)), (us.map (·.1)).Nodup → ((vs.foldl addT us).map (·.1)).Nodup
  | [], _, h => h
  | v :: vs, us, h => adds_nodup vs _ (addT_nodup h)
theorem adds_keys : ∀ (vs us : List (List Int × Addr)) {k : List Int}, k ∈ (vs.foldl addT us).map (·.1) ↔ k ∈ vs.map (·.1) ∨ k ∈ us.map (·.1)
  | [], us, k => by simp
  | v :: vs, us, k => by
    rw [List.foldl_cons, adds_keys vs _, addT_keys, List.map_cons, List.mem_cons]
    constructor
    · rintro (h | h | h)
      · exact .inl (.inr h)
      · exact .inl (.inl h)
      · exact .inr h
    · rintro ((h | h) | h)
      · exact .inr (.inl h)
      · exact .inl h
      · exact .inr (.inr h)
theorem adds_mem : ∀ (vs us : List (List Int × Addr)) {u : List Int × Addr}, u ∈ vs.foldl addT us → u ∈ vs ∨ u ∈ us
  | [], _, _, h => .inr h
  | v :: vs, us, u, h => by
    rcases adds_mem vs _ h with z | z
    · exact .inl (List.mem_cons_of_mem _ z)
    · rcases addT_mem z with z | z
      · exact .inl (by rw [z]; exact List.mem_cons_self ..)
      · exact .inr z
theorem adds_len : ∀ (vs us : List (List Int × Addr)), (vs.foldl addT us).length ≤ vs.length + us.length
  | [], us => by simp
  | v :: vs, us => by
    have a := adds_len vs (addT us v)
    have b := addT_len us v
    rw [List.foldl_cons, List.length_cons]
    omega
theorem items_of_ints {prog : Program} {w : World} : ∀ {vs : List Value} {ns : List Int}, IntsAre vs ns → PySem.ItemsAre (intKind prog w) ns vs
  | _, _, .nil => .nil
  | _, _, .cons n t r => .cons (by show Value.isInt n (.int n t) = true; simp [Value.isInt]) (items_of_ints r)
section
variable {prog : Program} {w : World} {A : Around} {E : Value → Shared → Prop} {s : Shared}
theorem sorted_tups {x : Value} {us : List (List Int × Addr)} {Q : Value → Shared → Prop} (small : us.length < 64) (nd : (us.map (·.1)).Nodup) (ne : ∀ u ∈ us, 2 ≤ us.length → u.1 ≠ []) (hT : ∀ u ∈ us, TK prog w s.heap u.1 u.2)
    (hc : ∀ (Q' : List Value → Shared → Prop) (E' : Value → Shared → Prop), (∀ (s' : Shared) (vs : List Value), (∀ b o, s.heap.get? b = some o → s'.heap.get? b = some o) → s'.gens = s.gens → s'.os = s.os → vs.Perm (refs us) → Q' vs s') → wpAny (model prog w) A.in1 (collect x) Q' E' s)
    (h : ∀ (s1 : Shared) (h2 : Heap) (n : Nat) (us' : List (List Int × Addr)), (∀ b o, s.heap.get? b = some o → s1.heap.get? b = some o) → s1.gens = s.gens → s1.os = s.os → (∀ b o, s1.heap.get? b = some o → h2.get? b = some o) →
      h2.get? s1.heap.objs.size = some { cls := .type "list", data := .seq (refs us').toArray n } → us'.Perm us → LexUp us' → Q (.ref s1.heap.objs.size) { s1 with heap := h2 }) :
    wpAny (model prog w) A (call (.builtin "sorted") [x]) Q E s := by
  refine Calls.call_function_entry kind_sorted plain_sorted entry_sorted (args_sorted1 _) ?_
  unfold Builtin.«sorted»
  refine wpAny_bind (m := checkCount "sorted" 1 1 _) (wpAny_pure ?_)
  refine wpAny_bind (hc _ _ fun s1 vs k1 g1 o1 pm => ?_)
  obtain ⟨us1, p1, e1⟩ := perm_map_inv pm.symm us rfl
  have e1 : refs us1 = vs := e1
  subst e1
  have hl : us1.length = us.length := p1.length_eq
  refine wpAny_bind (wpAny_newList ?_ (by rw [show (refs us1).length = us1.length from List.length_map _, hl, sizeLine_eq]; omega))
  have gL : (s1.heap.push (seqObj "list" (refs us1).toArray 0)).get? s1.heap.objs.size = some (seqObj "list" (refs us1).toArray 0) := Heap.get?_push_size _ rfl
  refine wpAny_bind (wpAny_holding (wpAny_call_entry slot_list_sort ⟨_, gL, rfl⟩ entry_list_sort (tup_list_sort gL (by omega) ((p1.map (·.1)).nodup_iff.mpr nd) (fun u hu z => ne u (p1.mem_iff.mp hu) (by omega)) (fun u hu => tk_keep (hT u (p1.mem_iff.mp hu)) fun o e => Heap.get?_push_of_some _ (k1 _ o e)) fun us' p2 lx => ⟨_, rfl, ?_⟩) (args_list_sort _)))
  refine wpAny_pure ⟨_, rfl, ?_⟩
  obtain ⟨e, ge⟩ := sortedHeap_at (out := (refs us').toArray) gL
  refine h s1 _ e us' k1 g1 o1 (fun b o q1 => ?_) ge (p2.trans p1) lx
  have lb := Heap.lt_size q1
  rw [sortedHeap_old (Nat.ne_of_lt lb) (by rw [Heap.size_push]; exact Nat.lt_succ_of_lt lb)]
  exact Heap.get?_push_of_some _ q1
end
end STab
namespace L2
open PySem PySem.Spec PyProof.Rows
def setTO (P : Program) (w : World) (q : Addr) (us : List (List Int × Addr)) : HO := .ext fun h => STab.SetA P w h q (STab.ledIn w) us
def TupsAt (H : Hp) (us : List (List Int × Addr)) : Prop := ∀ u ∈ us, H u.2 = some (.tup (u.1.map V.int))
def refsV (us : List (List Int × Addr)) : List V := us.map fun u => V.ref u.2
theorem vals_refs : ∀ {us : List (List Int × Addr)} {its : List Value}, Vals (refsV us) its → its = us.map fun u => Value.ref u.2
  | [], _, r => by cases r; rfl
  | u :: us, _, r => by
    cases r with
    | cons r1 r2 =>
      cases r1
      rw [List.map_cons, ← vals_refs r2]
theorem refs_vals : ∀ (us : List (List Int × Addr)), Vals (refsV us) (STab.refs us)
  | [] => .nil
  | u :: us => .cons rfl (refs_vals us)
section
variable {X : Cx}
theorem tk_of {pins : List (Addr × Obj)} {σ : St} {H : Hp} {s : Shared} (I : Inv X pins σ H s) {k : List Int} {b : Addr} (h : H b = some (.tup (k.map V.int))) : STab.TK X.prog X.w s.heap k b := by
  obtain ⟨its, rv, ⟨o, ho, hc, n, hd⟩, hz⟩ := I.tuple (SqT.of h)
  exact ⟨o, its.toArray, n, ho, hc, hd, by simpa using STab.items_of_ints (intsAre_of rv)⟩
theorem call_set_T (hc : X.calm = true) (hu : X.A.units + 64 < cLine) : CallR X (.type "set") (fun xs H Q => ∃ (p : Addr) (us : List (List Int × Addr)), xs = [.ref p] ∧ SqL X.K H p (refsV us) ∧ TupsAt H us ∧ us.length < 76 ∧ ∀ (q : Addr), H q = none → Q (.ref q) (upd H q (setTO X.prog X.w q (us.foldl STab.addT [])))) := by
  intro pins s σ H xs us0 Q I r h
  obtain ⟨p, us, rfl, hq, ht, small, q⟩ := h
  obtain ⟨u, rfl, ru⟩ := vals1 r
  cases ru
  obtain ⟨its, rv, pl, hz⟩ := I.list hq
  refine STab.set_of_tups (I.ok.hd hc) pl.isList (by simpa using vals_refs rv) (by omega) (fun u hu => tk_of I (ht u hu)) hu fun h' tk x k => ?_
  have hf : H s.heap.objs.size = none := I.hok.fresh (Nat.le_refl _)
  refine ⟨.ref s.heap.objs.size, _, I.laid (t' := tk) k (Nat.le_refl _) ?_, rfl, q _ hf⟩
  obtain ⟨o, es, ep, t, ho, r⟩ := id x
  exact ⟨x, ⟨o, ho⟩, fun h1 h2 y kk => y.keep kk⟩
theorem call_sorted_T (hc : X.calm = true) : CallR X (.builtin "sorted") (fun xs H Q => ∃ (p : Addr) (us : List (List Int × Addr)), xs = [.ref p] ∧ H p = some (setTO X.prog X.w p us) ∧ TupsAt H us ∧ us.length < 64 ∧ (us.map (·.1)).Nodup ∧ (∀ u ∈ us, 2 ≤ us.length → u.1 ≠ []) ∧
    ∀ (l : Addr) (us' : List (List Int × Addr)), H l = none → us'.Perm us → STab.LexUp us' → Q (.ref l) (upd H l (.lst (refsV us')))) := by
  intro pins s σ H xs us0 Q I r h
  obtain ⟨p, us, rfl, hq, ht, small, nd, ne, q⟩ := h
  obtain ⟨u, rfl, ru⟩ := vals1 r
  cases ru
  have calm : X.A.in1.handled = none := I.ok.hd hc
  obtain ⟨x, _, _⟩ := I.hok p _ hq
  refine STab.sorted_tups small nd ne (fun u hu => tk_of I (ht u hu)) (fun Q' E' k => ?_) fun s1 h2 n us' k1 g1 o1 k2 gL pm lx => ?_
  · exact STab.collect_setA calm x (by omega) fun s' vs _ kk eg eo pm => k s' vs kk eg eo pm
  · have I1 := I.keptAll k1 g1 o1
    have hf : H s1.heap.objs.size = none := I1.hok.fresh (Nat.le_refl _)
    refine ⟨.ref s1.heap.objs.size, _, I1.laid (t' := s1.toks) k2 (Nat.le_refl _) ?_, rfl, q _ us' hf pm lx⟩
    refine ⟨?_, STab.refs us', n, refs_vals us', gL⟩
    have e : (refsV us').length = us.length := by
      have := pm.length_eq
      unfold refsV
      rw [List.length_map]
      exact this
    rw [e]
    exact Nat.le_trans (Nat.le_of_lt small) (by decide)
end
end L2
namespace My
open PySem L2
def imgS (n : Int) (cs : List Int) : List (List Int) := (allC n).map fun c => img n c.1 c.2 cs
structure Imgs (n : Int) (cs : List Int) (L : List (List Int)) : Prop where
  up : L.Pairwise fun x y => HT.lexLt x y = true
  mem : ∀ k, k ∈ L ↔ k ∈ imgS n cs
theorem allC_mem {n : Int} {c : Bool × Int} : c ∈ allC n ↔ 0 ≤ c.2 ∧ c.2 < n := by
  unfold allC
  rw [List.mem_append, List.mem_map, List.mem_map]
  constructor
  · rintro (⟨k, hk, rfl⟩ | ⟨k, hk, rfl⟩)
    · exact rng_mem.mp hk
    · exact rng_mem.mp hk
  · intro h
    obtain ⟨t, m⟩ := c
    cases t
    · exact .inr ⟨m, rng_mem.mpr h, rfl⟩
    · exact .inl ⟨m, rng_mem.mpr h, rfl⟩
def thn (n : Int) (c d : Bool × Int) : Bool × Int := (c.1 == d.1, dn n d.1 d.2 c.2)
def bck (n : Int) (c : Bool × Int) : Bool × Int := (c.1, bk n c.1 c.2)
abbrev imgC (n : Int) (c : Bool × Int) (cs : List Int) : List Int := img n c.1 c.2 cs
theorem img_thn {n : Int} (hn : 0 < n) (c d : Bool × Int) (cs : List Int) : imgC n (thn n c d) cs = imgC n d (imgC n c cs) := by
  refine (img_tones _ _ _ _).ext (img_tones _ _ _ _) fun y => ?_
  rw [img_mem hn, img_mem hn]
  constructor
  · rintro ⟨x, hx, e⟩
    refine ⟨dn n c.1 c.2 x, (img_mem hn).mpr ⟨x, hx, rfl⟩, ?_⟩
    rw [← e]
    exact (dn_then n c.1 d.1 c.2 d.2 x).symm
  · rintro ⟨z, hz, e⟩
    obtain ⟨x, hx, e2⟩ := (img_mem hn).mp hz
    refine ⟨x, hx, ?_⟩
    rw [← e, ← e2]
    exact dn_then n c.1 d.1 c.2 d.2 x
theorem img_bck {n : Int} (hn : 0 < n) (c : Bool × Int) {cs : List Int} (h : Tones n cs) : imgC n (bck n c) (imgC n c cs) = cs := by
  refine (img_tones _ _ _ _).ext h fun y => ?_
  rw [img_mem hn]
  constructor
  · rintro ⟨z, hz, e⟩
    obtain ⟨x, hx, e2⟩ := (img_mem hn).mp hz
    have := h.2 x hx
    rw [← e, ← e2]
    show dn n c.1 (bk n c.1 c.2) (dn n c.1 c.2 x) ∈ cs
    rw [dn_back c.1 c.2 this.1 this.2]
    exact hx
  · intro hy
    have := h.2 y hy
    exact ⟨_, (img_mem hn).mpr ⟨y, hy, rfl⟩, dn_back c.1 c.2 this.1 this.2⟩
theorem thn_mem {n : Int} (hn : 0 < n) (c d : Bool × Int) : thn n c d ∈ allC n := allC_mem.mpr ⟨dn_lo hn _ _ _, dn_hi hn _ _ _⟩
theorem wys_mem {n : Int} {cs ds : List Int} {c : Bool × Int} : c ∈ wys n cs ds ↔ c ∈ allC n ∧ imgC n c cs = ds := by
  unfold wys
  rw [List.mem_filter, decide_eq_true_eq]
theorem imgS_img {n : Int} (hn : 0 < n) {cs : List Int} (h : Tones n cs) (d : Bool × Int) (k : List Int) : k ∈ imgS n (imgC n d cs) ↔ k ∈ imgS n cs := by
  unfold imgS
  rw [List.mem_map, List.mem_map]
  constructor
  · rintro ⟨c, hc, e⟩
    exact ⟨thn n d c, thn_mem hn d c, by rw [← e]; exact img_thn hn d c cs⟩
  · rintro ⟨c, hc, e⟩
    refine ⟨thn n (bck n d) c, thn_mem hn _ _, ?_⟩
    show imgC n (thn n (bck n d) c) (imgC n d cs) = k
    rw [img_thn hn, img_bck hn d h]
    exact e
theorem id_mem {n : Int} (hn : 0 < n) {cs : List Int} (h : Tones n cs) : cs ∈ imgS n cs := List.mem_map.mpr ⟨(true, 0), allC_mem.mpr ⟨Int.le_refl 0, hn⟩, turn_zero hn h⟩
structure Least (n : Int) (cs k : List Int) : Prop where
  mem : k ∈ imgS n cs
  low : ∀ k', k' ∈ imgS n cs → k' ≠ k → HT.lexLt k k' = true
theorem Least.uniq {n : Int} {cs k k' : List Int} (a : Least n cs k) (b : Least n cs k') : k = k' := by
  by_cases e : k = k'
  · exact e
  · have := STab.lexTrans (a.low k' b.mem (Ne.symm e)) (b.low k a.mem e)
    rw [STab.lexSelf] at this
    cases this
theorem Imgs.least {n : Int} (hn : 0 < n) {cs : List Int} {L : List (List Int)} (i : Imgs n cs L) (h : Tones n cs) : ∃ k L', L = k :: L' ∧ Least n cs k := by
  cases L with
  | nil => exact absurd ((i.mem cs).mpr (id_mem hn h)) (by simp)
  | cons k L' =>
    refine ⟨k, L', rfl, (i.mem k).mp (List.mem_cons_self ..), fun k' hk' ne => ?_⟩
    rcases List.mem_cons.mp ((i.mem k').mpr hk') with e | e
    · exact absurd e ne
    · exact (List.pairwise_cons.mp i.up).1 k' e
theorem Least.tones {n : Int} {cs k : List Int} (a : Least n cs k) : Tones n k := by
  obtain ⟨c, _, rfl⟩ := List.mem_map.mp a.mem
  exact img_tones _ _ _ _
theorem Least.of_img {n : Int} (hn : 0 < n) {cs k : List Int} (h : Tones n cs) (d : Bool × Int) (a : Least n (imgC n d cs) k) : Least n cs k :=
  ⟨(imgS_img hn h d k).mp a.mem, fun k' hk' ne => a.low k' ((imgS_img hn h d k').mpr hk') ne⟩
theorem imgS_len {n : Int} (hn : 0 < n) {cs k : List Int} (h : Tones n cs) (hk : k ∈ imgS n cs) : k.length = cs.length := by
  obtain ⟨c, _, rfl⟩ := List.mem_map.mp hk
  exact img_len hn _ _ h
theorem prd_us {H : Hp} : ∀ {ws : List V} {ks : List (List Int)}, Paired (TupR H) ws ks → ∃ us : List (List Int × Addr), ws = refsV us ∧ us.map (·.1) = ks ∧ TupsAt H us
  | _, _, .nil => ⟨[], rfl, rfl, fun u hu => by cases hu⟩
  | v :: ws, k :: ks, .cons ⟨r, e, h⟩ t => by
    obtain ⟨us, e1, e2, e3⟩ := prd_us t
    refine ⟨(k, r) :: us, ?_, ?_, fun u hu => ?_⟩
    · rw [e, e1]; rfl
    · rw [List.map_cons, e2]
    · rcases List.mem_cons.mp hu with z | z
      · rw [z]; exact h
      · exact e3 u z
theorem same_tups {H H' : Hp} {us : List (List Int × Addr)} (s : Same H H') (h : TupsAt H us) : TupsAt H' us := fun u hu => s _ _ (h u hu)
theorem set_us {n : Int} (hn : 0 < n) (n24 : n ≤ 24) {cs : List Int} (h : Tones n cs) {us : List (List Int × Addr)} (e : us.map (·.1) = imgS n cs) :
    (us.foldl STab.addT []).length < 64 ∧ ((us.foldl STab.addT []).map (·.1)).Nodup ∧ (∀ u ∈ us.foldl STab.addT [], 2 ≤ (us.foldl STab.addT []).length → u.1 ≠ []) ∧ us.length < 76 := by
  have l0 : us.length = 2 * n.toNat := by
    rw [← List.length_map (f := (·.1)), e]
    unfold imgS
    rw [List.length_map, allC_len]
  have l1 := STab.adds_len us []
  have nd := STab.adds_nodup us [] List.nodup_nil
  refine ⟨by simp at l1; omega, nd, fun u hu h2 z => ?_, by omega⟩
  have key : ∀ v ∈ us.foldl STab.addT [], v.1.length = cs.length := fun v hv => by
    rcases STab.adds_mem us [] hv with q | q
    · refine imgS_len hn h ?_
      rw [← e]
      exact List.mem_map.mpr ⟨v, q, rfl⟩
    · cases q
  have c0 : cs.length = 0 := by rw [← key u hu, z]; rfl
  have all : ∀ v ∈ us.foldl STab.addT [], v.1 = [] := fun v hv => List.length_eq_zero_iff.mp ((key v hv).trans c0)
  generalize us.foldl STab.addT [] = vs at *
  match vs, h2 with
  | a :: b :: vs, _ =>
    rw [List.map_cons, List.map_cons, all a (by simp), all b (by simp), List.nodup_cons] at nd
    exact nd.1 (List.mem_cons_self ..)
theorem imgs_of {n : Int} {cs : List Int} {us us' : List (List Int × Addr)} (e : us.map (·.1) = imgS n cs) (pm : us'.Perm (us.foldl STab.addT [])) (lx : STab.LexUp us') : Imgs n cs (us'.map (·.1)) := by
  refine ⟨by rw [List.pairwise_map]; exact lx, fun k => ?_⟩
  rw [(pm.map (·.1)).mem_iff, STab.adds_keys, e]
  simp
end My
namespace L2
open PySem PySem.Spec PyProof.Rows
structure EqOk (K : PySem.W.Frag) (d : Nat) {α : Type} [DecidableEq α] (R : Hp → V → α → Prop) : Prop where
  fn : ∀ {H x a b}, R H x a → R H x b → a = b
  eq : ∀ {X : Cx} {A : Around} {pins : List (Addr × Obj)} {σ : List (Option V)} {H : Hp} {s : Shared} {x y : V} {v u : Value} {a b : α}, X.K = K → Inv X pins σ H s → RelV x v → RelV y u → R H x a → R H y b → A.units + d < cLine → SeqAt.EqAt A s v u (decide (a = b))
def IntR (_ : Hp) (x : V) (i : Int) : Prop := x = .int i
def StrR (_ : Hp) (x : V) (t : Str) : Prop := x = .str t
theorem eqok_int {K : PySem.W.Frag} : EqOk K 0 IntR where
  fn := by
    rintro H x a b h k
    cases h
    cases k
    rfl
  eq := by
    rintro X A pins σ H s x y v u a b hK I r r' h k hu
    cases h
    cases k
    have e : decide (a = b) = eqV (V.int a) (V.int b) := by
      rw [eqV_plain rfl rfl, Bool.eq_iff_iff]
      simp
    rw [e]
    exact eqAt_V r r' rfl rfl
theorem eqok_str {K : PySem.W.Frag} : EqOk K 0 StrR where
  fn := by
    rintro H x a b h k
    cases h
    cases k
    rfl
  eq := by
    rintro X A pins σ H s x y v u a b hK I r r' h k hu
    cases h
    cases k
    have e : decide (a = b) = eqV (V.str a) (V.str b) := by
      rw [eqV_plain rfl rfl, Bool.eq_iff_iff]
      simp
    rw [e]
    exact eqAt_V r r' rfl rfl
theorem prd_at {α : Type} {R : V → α → Prop} : ∀ {xs : List V} {as : List α} {i : Nat} {x : V}, Paired R xs as → xs[i]? = some x → ∃ a, as[i]? = some a ∧ R x a
  | [], _, _, _, .nil, e => by simp at e
  | _ :: _, _, 0, _, .cons r _, e => by simp at e; subst e; exact ⟨_, rfl, r⟩
  | _ :: _, _, i + 1, x, .cons _ t, e => by
    simp at e
    obtain ⟨a, h, r⟩ := prd_at t e
    exact ⟨a, by simpa using h, r⟩
theorem all_get {α : Type} [DecidableEq α] (as bs : List α) : ((List.range (min as.length bs.length)).all (fun j => decide (as[j]? = bs[j]?)) && as.length == bs.length) = decide (as = bs) := by
  rw [Bool.eq_iff_iff, Bool.and_eq_true, List.all_eq_true, beq_iff_eq, decide_eq_true_eq]
  constructor
  · rintro ⟨h, e⟩
    refine List.ext_getElem? fun j => ?_
    by_cases hj : j < as.length
    · exact of_decide_eq_true (h j (List.mem_range.mpr (by omega)))
    · rw [List.getElem?_eq_none (by omega), List.getElem?_eq_none (by omega)]
  · rintro rfl
    exact ⟨fun j _ => decide_eq_true rfl, rfl⟩
theorem all_get_same {α : Type} [DecidableEq α] {as bs : List α} (h : as.length = bs.length) : (List.range as.length).all (fun j => decide (as[j]? = bs[j]?)) = decide (as = bs) := by
  have := all_get as bs
  rw [← h, Nat.min_self, beq_self_eq_true, Bool.and_true] at this
  exact this
section
variable {K : PySem.W.Frag} {d : Nat} {α : Type} [DecidableEq α] {R : Hp → V → α → Prop}
theorem eqok_items (ok : EqOk K d R) {X : Cx} {A : Around} {pins : List (Addr × Obj)} {σ : List (Option V)} {H : Hp} {s : Shared} (hK : X.K = K) (I : Inv X pins σ H s) {xs ys : List V} {as bs : List α} {its its2 : List Value}
    (r : Vals xs its) (r2 : Vals ys its2) (pa : Paired (R H) xs as) (pb : Paired (R H) ys bs) (hu : A.units + d < cLine) :
    ∀ j (h1 : j < its.toArray.size) (h2 : j < its2.toArray.size), SeqAt.EqAt A s its.toArray[j] its2.toArray[j] (decide (as[j]? = bs[j]?)) := by
  intro j h1 h2
  have e1 := r.length
  have e2 := r2.length
  rw [List.size_toArray] at h1 h2
  have g1 : xs[j]? = some xs[j] := by simp
  have g2 : ys[j]? = some ys[j] := by simp
  obtain ⟨u, hu1, ru⟩ := r.get g1
  obtain ⟨v, hv1, rv⟩ := r2.get g2
  obtain ⟨a, ha, ra⟩ := prd_at pa g1
  obtain ⟨b, hb, rb⟩ := prd_at pb g2
  have z1 : its.toArray[j]'(by rw [List.size_toArray]; exact h1) = u := by
    obtain ⟨_, q⟩ := List.getElem?_eq_some_iff.mp hu1
    simpa using q
  have z2 : its2.toArray[j]'(by rw [List.size_toArray]; exact h2) = v := by
    obtain ⟨_, q⟩ := List.getElem?_eq_some_iff.mp hv1
    simpa using q
  rw [z1, z2, ha, hb]
  have e : decide (some a = some b) = decide (a = b) := by rw [Bool.eq_iff_iff]; simp
  rw [e]
  exact ok.eq hK I ru rv ra rb hu
theorem sizes {xs ys : List V} {as bs : List α} {its its2 : List Value} {P P' : V → α → Prop} (r : Vals xs its) (r2 : Vals ys its2) (pa : Paired P xs as) (pb : Paired P' ys bs) : its.toArray.size = as.length ∧ its2.toArray.size = bs.length := by
  rw [List.size_toArray, List.size_toArray, ← r.length, ← r2.length]
  exact ⟨prd_len pa, prd_len pb⟩
variable {X : Cx}
def rEqLd (K : PySem.W.Frag) (R : Hp → V → α → Prop) (g : Bool → Bool) : R2 := fun x y H Q => ∃ a b xs ys as bs, x = .ref a ∧ y = .ref b ∧ SqL K H a xs ∧ SqL K H b ys ∧ Paired (R H) xs as ∧ Paired (R H) ys bs ∧ Q (.bl (g (decide (as = bs)))) H
theorem op_neLd (ok : EqOk X.K d R) (hd : d ≤ 60) (hu : X.A.units + 64 < cLine) : OpR X (compareOp .NotEq) (rEqLd X.K R fun b => !b) := by
  intro pins s σ H x y v u Q I rx ry h
  obtain ⟨a, b, xs, ys, as, bs, rfl, rfl, ha, hb, pa, pb, q⟩ := h
  cases rx; cases ry
  obtain ⟨its, r, p, hz⟩ := I.list ha
  obtain ⟨its2, r2, p2, hz2⟩ := I.list hb
  obtain ⟨z1, z2⟩ := sizes r r2 pa pb
  by_cases hs : its.toArray.size = its2.toArray.size
  · refine SeqAt.RcNeAt.lists p.isList p2.isList hs (by omega) (eqok_items (A := X.A.in1) ok rfl I r r2 pa pb (by show X.A.units + 1 + d < cLine; omega)) _ _ _ _ ⟨.bl _, H, I, rfl, ?_⟩
    rw [z1, all_get_same (by omega)]
    exact q
  · refine SeqAt.RcNeAt.lists_lengths p.isList p2.isList (by simpa using hs) (by omega) _ _ _ _ ⟨.bl _, H, I, rfl, ?_⟩
    rw [decide_eq_false (fun e => hs (by rw [z1, z2, e]))] at q
    exact q
end
end L2
namespace L2
open PySem PySem.Spec PyProof.Rows
abbrev KX := List (List Key × Addr × V)
def dxOk (w : World) (a : Addr) (kvs : KX) (h : Heap) : Prop :=
  kvs.length ≤ sizeLine ∧ (a == sysModules) = false ∧ ∃ xs : List (List Key × Addr × Value), Paired (fun p q => p.1 = q.1 ∧ p.2.1 = q.2.1 ∧ RelV p.2.2 q.2.2) kvs xs ∧
    ∃ o es ep, h.get? a = some o ∧ o.ExactDict ∧ o.data = .dict es ep ∧ (∀ P : Program, es.toList = xs.map (entryOfKey (tupleKind (mixKind P w)))) ∧ (xs.map (·.1)).Nodup
def dX (w : World) (a : Addr) (kvs : KX) : HO := .ext (dxOk w a kvs)
def KeysOk (K : PySem.W.Frag) (H : Hp) (kvs : KX) : Prop := ∀ q ∈ kvs, SqT K H q.2.1 (q.1.map kV)
def atX (kvs : KX) (k : List Key) : Option V := (kvs.find? fun q => decide (q.1 = k)).map (·.2.2)
def putX (kvs : KX) (k : List Key) (b : Addr) (v : V) : KX := if (atX kvs k).isSome then kvs.map (fun q => if q.1 = k then (q.1, q.2.1, v) else q) else kvs ++ [(k, b, v)]
theorem putX_new {kvs : KX} {k : List Key} (h : atX kvs k = none) (b : Addr) (v : V) : putX kvs k b v = kvs ++ [(k, b, v)] := by unfold putX; rw [h]; rfl
theorem key_is {P : Program} {w : World} {k : Key} {u : Value} (r : RelV (kV k) u) : (mixKind P w).is k u = true := by
  cases k with
  | inl i => obtain ⟨t, e⟩ := (show ∃ t, u = Value.int i t from r); subst e; exact mixKind_int P w i t
  | inr x => obtain ⟨t, e⟩ := (show ∃ t, u = Value.str x t from r); subst e; exact mixKind_str P w x t
theorem keys_are {P : Program} {w : World} : ∀ {ks : List Key} {us : List Value}, Vals (ks.map kV) us → ItemsAre (mixKind P w) ks us
  | [], _, r => by rw [List.map_nil] at r; cases r; exact .nil
  | k :: ks, _, r => by
    rw [List.map_cons] at r
    cases r with
    | cons h t => exact .cons (key_is h) (keys_are t)
theorem dx_obj {P : Program} {w : World} {H : Hp} {h : Heap} {a : Addr} {kvs : KX} (q : dxOk w a kvs h) : ObjOk P w H h a (dX w a kvs) := by
  refine ⟨q, ?_, fun h1 h2 ⟨z, y, xs, r, o, es, ep, e, rest⟩ k => ⟨z, y, xs, r, o, es, ep, k o e, rest⟩⟩
  obtain ⟨_, _, _, _, o, _, _, e, _⟩ := q
  exact ⟨o, e⟩
theorem dx_val : ∀ {kvs : KX} {xs : List (List Key × Addr × Value)}, Paired (fun (p : List Key × Addr × V) (q : List Key × Addr × Value) => p.1 = q.1 ∧ p.2.1 = q.2.1 ∧ RelV p.2.2 q.2.2) kvs xs → ∀ k, match atX kvs k with | none => atKey xs k = none | some v => ∃ b u, atKey xs k = some (b, u) ∧ RelV v u
  | _, _, .nil, _ => rfl
  | _, _, .cons (a := p) (b := q) r t, k => by
    obtain ⟨h1, h2, h3⟩ := r
    have ih := dx_val t k
    by_cases e : p.1 = k
    · have e1 : ∀ kvs : KX, atX (p :: kvs) k = some p.2.2 := fun kvs => by unfold atX; rw [List.find?_cons_of_pos (by simpa using e)]; rfl
      rw [e1]
      refine ⟨q.2.1, q.2.2, ?_, h3⟩
      unfold atKey
      rw [List.find?_cons_of_pos (by simpa [← h1] using e)]
      rfl
    · have e1 : ∀ kvs : KX, atX (p :: kvs) k = atX kvs k := fun kvs => by unfold atX; rw [List.find?_cons_of_neg (by simpa using e)]
      have e2 : ∀ xs : List (List Key × Addr × Value), atKey (q :: xs) k = atKey xs k := fun xs => by unfold atKey; rw [List.find?_cons_of_neg (by simpa [← h1] using e)]
      rw [e1, e2]
      exact ih
theorem dx_put : ∀ {kvs : KX} {xs : List (List Key × Addr × Value)}, Paired (fun (p : List Key × Addr × V) (q : List Key × Addr × Value) => p.1 = q.1 ∧ p.2.1 = q.2.1 ∧ RelV p.2.2 q.2.2) kvs xs → ∀ (k : List Key) {v : V} {u : Value}, RelV v u →
    Paired (fun (p : List Key × Addr × V) (q : List Key × Addr × Value) => p.1 = q.1 ∧ p.2.1 = q.2.1 ∧ RelV p.2.2 q.2.2) (kvs.map fun q => if q.1 = k then (q.1, q.2.1, v) else q) (xs.map (putAt k u))
  | _, _, .nil, _, _, _, _ => .nil
  | _, _, .cons (a := p) (b := q) r t, k, v, u, ru => by
    rw [List.map_cons, List.map_cons]
    refine .cons ?_ (dx_put t k ru)
    obtain ⟨h1, h2, h3⟩ := r
    unfold putAt
    by_cases e : p.1 = k
    · rw [if_pos e, if_pos (h1 ▸ e)]; exact ⟨h1, h2, ru⟩
    · rw [if_neg e, if_neg (h1 ▸ e)]; exact ⟨h1, h2, h3⟩
theorem dx_stored {kvs : KX} {xs : List (List Key × Addr × Value)} (r : Paired (fun (p : List Key × Addr × V) (q : List Key × Addr × Value) => p.1 = q.1 ∧ p.2.1 = q.2.1 ∧ RelV p.2.2 q.2.2) kvs xs) (k : List Key) (b : Addr) {v : V} {u : Value} (ru : RelV v u) :
    Paired (fun (p : List Key × Addr × V) (q : List Key × Addr × Value) => p.1 = q.1 ∧ p.2.1 = q.2.1 ∧ RelV p.2.2 q.2.2) (putX kvs k b v) (storedH xs k b u) := by
  have q := dx_val r k
  unfold putX storedH
  cases e : atX kvs k with
  | none =>
    rw [e] at q
    have q : atKey xs k = none := q
    rw [q]
    exact prd_append r (.cons ⟨rfl, rfl, ru⟩ .nil)
  | some v' =>
    rw [e] at q
    obtain ⟨b', u', q, _⟩ := q
    rw [q]
    exact dx_put r k ru
theorem putX_len (kvs : KX) (k : List Key) (b : Addr) (v : V) : (putX kvs k b v).length ≤ kvs.length + 1 := by
  unfold putX
  split
  · rw [List.length_map]; omega
  · rw [List.length_append]; exact Nat.le_refl _
section
variable {X : Cx} {pins : List (Addr × Obj)} {σ : St} {H : Hp} {s : Shared} {a b : Addr} {kvs : KX} {k : List Key} {A : Around} {E : Value → Shared → Prop}
theorem Inv.keyAt (I : Inv X pins σ H s) (h : SqT X.K H b (k.map kV)) : (tupleKind (mixKind X.prog X.w)).is s.heap k b := by
  obtain ⟨its, r, ⟨o, h1, h2, n, h3⟩, _⟩ := I.tuple h
  exact ⟨o, its.toArray, n, h1, h2, h3, by simpa using keys_are r⟩
theorem Inv.dx (I : Inv X pins σ H s) (e : H a = some (dX X.w a kvs)) (ok : KeysOk X.K H kvs) : kvs.length ≤ sizeLine ∧ (a == sysModules) = false ∧ ∃ xs, Paired (fun (p : List Key × Addr × V) (q : List Key × Addr × Value) => p.1 = q.1 ∧ p.2.1 = q.2.1 ∧ RelV p.2.2 q.2.2) kvs xs ∧ s.heap.DictOfH (tupleKind (mixKind X.prog X.w)) a xs := by
  obtain ⟨⟨z, y, xs, r, o, es, ep, h1, h2, h3, h4, h5⟩, _⟩ := (show ObjOk X.prog X.w H s.heap a (dX X.w a kvs) from I.hok a _ e)
  refine ⟨z, y, xs, r, o, es, ep, h1, h2, h3, h4 _, ?_, h5⟩
  have all : ∀ {l : KX} {m : List (List Key × Addr × Value)}, Paired (fun (p : List Key × Addr × V) (q : List Key × Addr × Value) => p.1 = q.1 ∧ p.2.1 = q.2.1 ∧ RelV p.2.2 q.2.2) l m → (∀ q ∈ l, SqT X.K H q.2.1 (q.1.map kV)) → ∀ x ∈ m, (tupleKind (mixKind X.prog X.w)).is s.heap x.1 x.2.1 := by
    intro l m q
    induction q with
    | nil => intro _ x hx; exact nomatch hx
    | @cons p q ps qs hq t ih =>
      intro f x hx
      rcases List.mem_cons.mp hx with e | hx
      · subst e
        have := I.keyAt (f p (List.mem_cons_self ..))
        rw [hq.1, hq.2.1] at this
        exact this
      · exact ih (fun q hq => f q (List.mem_cons_of_mem _ hq)) x hx
  exact all r ok
theorem dx_write {h' : Heap} {t' : Nat} {kvs' : KX} {xs' : List (List Key × Addr × Value)} (I : Inv X pins σ H s) (e : H a = some (dX X.w a kvs)) (y : (a == sysModules) = false) (z : kvs'.length ≤ sizeLine)
    (r : Paired (fun (p : List Key × Addr × V) (q : List Key × Addr × Value) => p.1 = q.1 ∧ p.2.1 = q.2.1 ∧ RelV p.2.2 q.2.2) kvs' xs') (dd : h'.DictOfH (tupleKind (mixKind X.prog X.w)) a xs') (hs : Heap.SameBut a s.heap h') : Inv X pins σ (upd H a (dX X.w a kvs')) { s with heap := h', toks := t' } := by
  obtain ⟨o, es, ep, h1, h2, h3, h4, _, h5⟩ := dd
  exact I.write (x := a) (e := a) (by rw [e]; exact True.intro) (.inl rfl) (fun b q hb z => (hs.2 b hb).trans z) ⟨o, h1⟩ (dx_obj ⟨z, y, xs', r, o, es, ep, h1, h2, h3, fun _ => h4, h5⟩)
end
def tXGet (w : World) (K : PySem.W.Frag) (td ty : TE) : TE := fun σ H Q => td σ H fun x H1 => ty σ H1 fun y H2 => ∃ a b k kvs v, x = .ref a ∧ y = .ref b ∧ H2 a = some (dX w a kvs) ∧ KeysOk K H2 kvs ∧ SqT K H2 b (k.map kV) ∧ atX kvs k = some v ∧ Q v H2
def tXIn (w : World) (K : PySem.W.Frag) (neg : Bool) (ty td : TE) : TE := fun σ H Q => ty σ H fun y H1 => td σ H1 fun x H2 => ∃ a b k kvs, x = .ref a ∧ y = .ref b ∧ H2 a = some (dX w a kvs) ∧ KeysOk K H2 kvs ∧ SqT K H2 b (k.map kV) ∧ Q (.bl (if neg then !(atX kvs k).isSome else (atX kvs k).isSome)) H2
section
variable {X : Cx} {o i e value : Expr} {pos pos' : Pos} {td ty tv : TE}
theorem dxGet_type {pins : List (Addr × Obj)} {σ : St} {H : Hp} {s : Shared} {a : Addr} {kvs : KX} (I : Inv X pins σ H s) (e : H a = some (dX X.w a kvs)) (ok : KeysOk X.K H kvs) : s.TypeIs (.ref a) "dict" := by
  obtain ⟨_, _, xs, _, dd⟩ := I.dx e ok
  exact dd.typeIs
theorem rm1 {X : Cx} (hu : X.A.units + 1 < cLine) : (tupleKind (mixKind X.prog X.w)).room X.A.in1 := tupleKind_room_in1 hu
theorem pe_xget (hu : X.A.units + 1 < cLine) (ho : PE X o td) (hi : PE X i ty) (hs : ∀ ov iv, subscripted i false ov iv = operate [ov, iv] (getItem ov iv)) : PE X (.Subscript o i pos) (tXGet X.w X.K td ty) := by
  intro pins s σ H Q I h
  refine Subscript_ (thn (ho pins s σ H _ I h) fun u s1 ⟨x, H1, I1, rx, q1⟩ => thn (hi pins s1 σ H1 _ I1 q1) fun iv s2 ⟨y, H2, I2, ry, a, b, k, kvs, v, ex, ey, e, ok, hk, ev, q2⟩ => ?_)
  subst ex; subst ey
  obtain rfl : u = Value.ref a := rx
  obtain rfl : iv = Value.ref b := ry
  have hT := dxGet_type I2 e ok
  obtain ⟨z, hd, xs, r, dd⟩ := I2.dx e ok
  have val := dx_val r k
  rw [ev] at val
  obtain ⟨b', w', ea, rv⟩ := val
  have fin : wpAny (model X.prog X.w) X.A (subscripted i false (.ref a) (.ref b)) (fun r s₃ => wpAny (model X.prog X.w) X.A (letTemporaryGo o (.ref a) r >>= fun _ => pure r) (EP X pins σ Q) X.xe s₃) X.xe s2 := by
    rw [hs]
    refine wpAny_operating (wpAny_getItem_heap (rm1 hu) (I2.keyAt hk) dd ea ?_)
    exact wpAny_bind (wpAny_letTemporaryGo (wpAny_pure ⟨v, H2, I2.tok _, rv, q2⟩))
  unfold subscriptTail
  refine wpAny_bind ?_
  rw [getitemInPython_of_ne hT.not_modules]
  refine wpAny_bind (wpAny_specialOf hT PySem.F.slot_dict_getitem.lookup ?_)
  first
    | exact wpAny_pure (wpAny_bind fin)
    | exact wpAny_bind (wpAny_pure (wpAny_bind fin))
    | exact wpAny_bind fin
theorem pc_xnotin (hu : X.A.units + 1 < cLine) (hi : PE X i ty) (ho : PE X o td) : PC X .NotIn i o (tXIn X.w X.K true ty td) := by
  intro pins s σ H Q I h
  refine thn (hi pins s σ H _ I h) fun iv s1 ⟨y, H1, I1, ry, q1⟩ => thn (ho pins s1 σ H1 _ I1 q1) fun u s2 ⟨x, H2, I2, rx, a, b, k, kvs, ex, ey, e, ok, hk, q2⟩ => ?_
  subst ex; subst ey
  obtain rfl : u = Value.ref a := rx
  obtain rfl : iv = Value.ref b := ry
  obtain ⟨z, hd, xs, r, dd⟩ := I2.dx e ok
  refine wpAny_notIn_heap (rm1 hu) (I2.keyAt hk) hd dd ⟨_, H2, I2.tok _, ?_, q2⟩
  have val := dx_val r k
  cases ev : atX kvs k with
  | none => rw [ev] at val; rw [show atKey xs k = none from val]; rfl
  | some v => rw [ev] at val; obtain ⟨b', w', ea, _⟩ := val; rw [ea]; rfl
end
end L2
namespace L2
open PySem PySem.Spec PyProof.Rows
theorem units1 {k : Nat} {A : Around} (r : Room k A) : A.units + 1 < cLine := by have := r.un; omega
end L2
namespace L2
open PySem PySem.Spec PyProof.Rows
section
variable {K : PySem.W.Frag} {d : Nat} {α β : Type} [DecidableEq α] [DecidableEq β] {R : Hp → V → α → Prop} {S : Hp → V → β → Prop}
def PairOf {α β : Type} (R : Hp → V → α → Prop) (S : Hp → V → β → Prop) (H : Hp) (v : V) (c : α × β) : Prop := ∃ p x y, v = .ref p ∧ H p = some (.tup [x, y]) ∧ R H x c.1 ∧ S H y c.2
theorem eqok_pair (ok : EqOk K d R) (ok2 : EqOk K d S) : EqOk K (d + 1) (PairOf R S) where
  fn := by
    rintro H v ⟨a, b⟩ ⟨a', b'⟩ ⟨p, x, y, rfl, hp, ra, rb⟩ ⟨p', x', y', e, hp', ra', rb'⟩
    cases e
    rw [hp] at hp'
    cases hp'
    have e1 : a = a' := ok.fn ra ra'
    have e2 : b = b' := ok2.fn rb rb'
    subst e1 e2
    rfl
  eq := by
    rintro X A pins σ H s x y v u ⟨a, b⟩ ⟨a', b'⟩ hK I r r' ⟨p, x1, y1, rfl, hp, ra, rb⟩ ⟨p', x2, y2, rfl, hp', ra', rb'⟩ hu
    cases r
    cases r'
    by_cases e : p = p'
    · subst e
      rw [hp] at hp'
      cases hp'
      have e1 : a = a' := ok.fn ra ra'
      have e2 : b = b' := ok2.fn rb rb'
      subst e1 e2
      rw [decide_eq_true rfl]
      exact SeqAt.EqAt.same _
    · obtain ⟨its, r1, p1, _⟩ := I.tuple (SqT.of hp)
      obtain ⟨its2, r2, p2, _⟩ := I.tuple (SqT.of hp')
      refine SeqAt.EqAt.of_refs e ?_
      obtain ⟨u1, w1, rfl, q1, q2⟩ := vals2 r1
      obtain ⟨u2, w2, rfl, q3, q4⟩ := vals2 r2
      have hu' : A.in1.units + d < cLine := by show A.units + 1 + d < cLine; omega
      have := SeqAt.RcAt.tuples (A := A) (e := fun j => if j = 0 then decide (a = a') else decide (b = b')) p1 p2 (by omega) (fun j h1 h2 => by
        match j, h1, h2 with
        | 0, _, _ => exact ok.eq hK I q1 q3 ra ra' hu'
        | 1, _, _ => exact ok2.eq hK I q2 q4 rb rb' hu'
        | j + 2, h1, _ => exact absurd (show j + 2 < 2 from h1) (by omega))
      have e2 : ((List.range (min ([u1, w1].toArray.size) ([u2, w2].toArray.size))).all (fun j => if j = 0 then decide (a = a') else decide (b = b')) && [u1, w1].toArray.size == [u2, w2].toArray.size) = decide ((a, b) = (a', b')) := by
        show ((decide (a = a') && (decide (b = b') && true)) && true) = decide ((a, b) = (a', b'))
        rw [Bool.eq_iff_iff]
        simp
      rw [e2] at this
      exact this
end
end L2
namespace L2
open PySem PySem.Spec PyProof.Rows
section
variable {X : Cx}
variable {tg : Expr}
def iBoth (K : PySem.W.Frag) (tl : TE) : TI := fun σ H R => tl σ H fun x H1 => ∃ a, x = .ref a ∧ (((∃ xs, SqL K H1 a xs) ∧ R (Itl K a) H1) ∨ ((∃ xs, SqT K H1 a xs) ∧ R (Itt K a) H1))
theorem pi_both {l : Expr} {tl : TE} (hl : PE X l tl) : PI X tg l (iBoth X.K tl) := by
  intro pins s σ H R I h
  refine thn (hl pins s σ H _ I h) fun v s1 ⟨x, H1, I1, r1, q1⟩ => ?_
  obtain ⟨a, e, ⟨⟨xs, hq⟩, q⟩ | ⟨⟨xs, hq⟩, q⟩⟩ := q1
  · subst e
    cases r1
    obtain ⟨its, rv, p, hz⟩ := I1.list hq
    refine wpAny_pyIter_list p.isList ?_
    refine ⟨s1.heap.objs.size, [s1.heap.objs.size], _, _, H1, rfl, I1.kept (t' := s1.toks) fun b o e => Heap.get?_push_of_some _ e, turn_list a _, ⟨_, Heap.get?_push_size _ rfl, rfl, rfl⟩, fun b hb => ?_, q⟩
    have e : b = s1.heap.objs.size := by simpa using hb
    subst e
    exact I1.fpOk (Nat.le_refl _) (I1.hok.fresh (Nat.le_refl _))
  · subst e
    cases r1
    obtain ⟨its, rv, p, hz⟩ := I1.tuple hq
    refine wpAny_pyIter_tuple (show s1.heap.IsTuple a its.toArray from p) ?_
    refine ⟨s1.heap.objs.size, [s1.heap.objs.size], _, _, H1, rfl, I1.kept (t' := s1.toks) fun b o e => Heap.get?_push_of_some _ e, turn_tuple a _, ⟨_, Heap.get?_push_size _ rfl, rfl, rfl⟩, fun b hb => ?_, q⟩
    have e : b = s1.heap.objs.size := by simpa using hb
    subst e
    exact I1.fpOk (Nat.le_refl _) (I1.hok.fresh (Nat.le_refl _))
end
end L2
namespace L2
open PySem PySem.Spec PyProof.Rows
theorem best_le {α : Type} {lt : α → α → Bool} (ir : ∀ a, lt a a = false) (tr : ∀ a b c, lt a b = true → lt b c = true → lt a c = true) (f : Nat → α) : ∀ (k j : Nat), j ≤ k → lt (f j) (f (argBest (fun i j => lt (f i) (f j)) k)) = false
  | 0, j, h => by
    have : j = 0 := by omega
    subst this
    exact ir _
  | k + 1, j, h => by
    have ih := best_le ir tr f k
    have e : argBest (fun i j => lt (f i) (f j)) (k + 1) = if lt (f (k + 1)) (f (argBest (fun i j => lt (f i) (f j)) k)) then k + 1 else argBest (fun i j => lt (f i) (f j)) k := rfl
    rw [e]
    cases hb : lt (f (k + 1)) (f (argBest (fun i j => lt (f i) (f j)) k)) with
    | true =>
      rw [if_pos rfl]
      by_cases hj : j = k + 1
      · rw [hj]; exact ir _
      · cases hq : lt (f j) (f (k + 1)) with
        | false => rfl
        | true =>
          have := tr _ _ _ hq hb
          rw [ih j (by omega)] at this
          cases this
    | false =>
      rw [if_neg Bool.false_ne_true]
      by_cases hj : j = k + 1
      · rw [hj]; exact hb
      · exact ih j (by omega)
theorem best_lt (bt : Nat → Nat → Bool) : ∀ k, argBest bt k ≤ k
  | 0 => Nat.le_refl _
  | k + 1 => by
    show (if bt (k + 1) (argBest bt k) then k + 1 else argBest bt k) ≤ k + 1
    have := best_lt bt k
    split <;> omega
end L2
namespace L2
open PySem PySem.Spec PyProof.Rows
theorem lay_ints : ∀ (ns : List Int), (∀ x ∈ ns, 0 ≤ x ∧ x < 1000) → PyData.canLayAll0 (ns.map PyData.int) = true ∧ PyData.depthAll (ns.map PyData.int) ≤ 1 ∧ PyData.weightAll (ns.map PyData.int) ≤ 20 * ns.length
  | [], _ => by decide
  | n :: ns, hb => by
    have ih := lay_ints ns fun x hx => hb x (List.mem_cons_of_mem _ hx)
    have h := hb n (List.mem_cons_self ..)
    have lg : (if n = 0 then 0 else n.natAbs.log2 + 1) ≤ 10 := by
      split
      · omega
      · exact (Nat.log2_lt (by omega)).mpr (show n.natAbs < 2 ^ 10 by omega)
    rw [List.map_cons]
    simp [PyData.canLayAll0, PyData.depthAll, PyData.weightAll, PyData.canLay0, PyData.depth, PyData.weight]
    refine ⟨ih.1, ?_, ?_⟩
    · have := ih.2.1
      omega
    · have := ih.2.2
      omega
theorem lay_intL {ns : List Int} (h : ns.length ≤ 1000) (hb : ∀ x ∈ ns, 0 ≤ x ∧ x < 1000) : (PyData.list (ns.map PyData.int)).layable0 = true := by
  have l := lay_ints ns hb
  unfold PyData.layable0
  have e1 : (PyData.list (ns.map PyData.int)).canLay0 = true := by simpa [PyData.canLay0] using l.1
  have e2 : (PyData.list (ns.map PyData.int)).depth ≤ 64 := by
    have := l.2.1
    simp [PyData.depth]
    omega
  have e3 : (PyData.list (ns.map PyData.int)).weight ≤ 2 ^ 20 := by
    have := l.2.2
    simp [PyData.weight]
    omega
  rw [e1, decide_eq_true e2, decide_eq_true e3]
  rfl
section
variable {X : Cx} {K : PySem.W.Frag}
def rIdxI (K : PySem.W.Frag) : V → List V → Hp → VK → Prop := fun x vs H Q => ∃ (l : Addr) (ns : List Int) (k : Int), x = .ref l ∧ vs = [.int k] ∧ SqL K H l (ns.map V.int) ∧ ns.length ≤ 1000 ∧ (∀ x ∈ ns, 0 ≤ x ∧ x < 1000) ∧ k ∈ ns ∧ Q (.int (ns.idxOf k : Nat)) H
theorem mt_idxI : MtM X "list.index" (rIdxI X.K) := by
  intro pins s σ H x vs v us Q I rx rv h
  obtain ⟨l, ns, k, rfl, rfl, hq, hl, hb, hk, q⟩ := h
  cases rx
  obtain ⟨u, rfl, t, rfl⟩ := rv.one
  obtain ⟨its, r, pl, hz⟩ := I.list hq
  exact index_list_ints pl.isList (intsAre_of r) (lay_intL hl hb) hk ⟨.int (ns.idxOf k : Nat), H, I.tok _, ⟨_, rfl⟩, q⟩
end
theorem idx_of : ∀ {ns : List Int} {k : Int} {j : Nat}, ns[j]? = some k → (∀ i, i < j → ns[i]? ≠ some k) → ns.idxOf k = j
  | n :: ns, k, 0, h, _ => by
    have : n = k := by simpa using h
    subst this
    simp
  | n :: ns, k, j + 1, h, hno => by
    have h1 : ns[j]? = some k := by simpa using h
    have n0 : n ≠ k := fun e => hno 0 (Nat.succ_pos j) (by simp [e])
    have ih := idx_of h1 fun i hi e => hno (i + 1) (by omega) (by simpa using e)
    rw [List.idxOf_cons, ih, show (n == k) = false from beq_false_of_ne n0]
    rfl
end L2
namespace L2
open PySem PySem.Spec PyProof.Rows
section
variable {X : Cx} {es : List Expr} {t : TA} {pos : Pos}
def tMo (t : TA) : TA := fun σ H K => ∃ K', t σ H K' ∧ ∀ xs H1, K' xs H1 → K xs H1
theorem pa_mo (h : PA X es t) : PA X es (tMo t) := fun p pins s σ H K I ⟨K', hk, im⟩ => thn (h p pins s σ H K' I hk) fun us s1 ⟨xs, H1, I1, r, q⟩ => ⟨xs, H1, I1, r, im _ _ q⟩
def tTupG (t : TA) : TE := fun σ H Q => t σ H fun xs H1 => xs.length ≤ sizeLine ∧ ∀ p H2, Same H1 H2 → H2 p = some (.tup xs) → Q (.ref p) H2
theorem pe_tupG {x1} (h : PA X es t) : PE X (.Tuple es x1 pos) (tTupG t) := fun pins s σ H Q I hq => pe_tup (pa_mo h) pins s σ H Q I ⟨_, hq, fun xs H1 ⟨z, q⟩ => ⟨z, fun p p0 => q p _ (Same.new p0) upd_same⟩⟩
def tLstG (t : TA) : TE := fun σ H Q => t σ H fun xs H1 => xs.length ≤ sizeLine ∧ ∀ p H2, Same H1 H2 → H1 p = none → H2 p = some (.lst xs) → Q (.ref p) H2
theorem pe_lstG (h : PA X es t) : PE X (.List es pos) (tLstG t) := fun pins s σ H Q I hq => pe_lst (pa_mo h) pins s σ H Q I ⟨_, hq, fun xs H1 ⟨z, q⟩ => ⟨z, fun p p0 => q p _ (Same.new p0) p0 upd_same⟩⟩
end
end L2
namespace L2
open PySem PySem.Spec PyProof.Rows
def tXNil (w : World) : TE := fun _ H Q => ∀ p, H p = none → Q (.ref p) (upd H p (dX w p []))
theorem pe_xnil {X : Cx} {pos : Pos} : PE X (.Dict [] [] pos) (tXNil X.w) := by
  intro pins s σ H Q I h
  have hn := I.hok.fresh (Nat.le_refl s.heap.objs.size)
  have big : sysModules < s.heap.objs.size := Nat.lt_trans (by decide) (show mainGlobals < s.heap.objs.size from (I.mod.glob.keeps I.bk).lt)
  have I1 := I.laid (a := s.heap.objs.size) (o := dX X.w s.heap.objs.size []) (h' := s.heap.push { cls := .type "dict", data := .dict #[] }) (t' := s.toks) (fun _ _ q => Heap.get?_push_of_some _ q) (Nat.le_refl _)
    (dx_obj ⟨Nat.zero_le _, beq_eq_false_iff_ne.mpr (Ne.symm (Nat.ne_of_lt big)), [], .nil, _, #[], 0, Heap.get?_push_size _ rfl, ⟨rfl, rfl, rfl⟩, rfl, fun _ => rfl, List.nodup_nil⟩)
  exact wpAny_Dict_empty ⟨.ref s.heap.objs.size, _, I1, rfl, h _ hn⟩
end L2
namespace L2
open PySem PySem.Spec PyProof.Rows
def IsCls (K : PySem.W.Frag) (c : Str) (C : Addr) : Prop := PySem.W.nsIn K mainGlobals c = some (some (.ref C))
theorem IsCls.one {K : PySem.W.Frag} {c : Str} {C D : Addr} (h : IsCls K c C) (k : IsCls K c D) : C = D := by
  have := h.symm.trans k
  cases this
  rfl
def Ins (K : PySem.W.Frag) (c : Str) (H : Hp) (p : Addr) (fs : List (Str × V)) : Prop := ∃ C dx, IsCls K c C ∧ H p = some (.ins C dx fs)
theorem Ins.same {K : PySem.W.Frag} {c : Str} {H H' : Hp} {p : Addr} {fs : List (Str × V)} (s : Same H H') (i : Ins K c H p fs) : Ins K c H' p fs := let ⟨C, dx, a, b⟩ := i; ⟨C, dx, a, s _ _ b⟩
def Save (p : Addr) (H H' : Hp) : Prop := ∀ b o, b ≠ p → H b = some o → H' b = some o
theorem Save.same {p : Addr} {H H' : Hp} (s : Same H H') : Save p H H' := fun b o _ e => s b o e
theorem Save.trans {p : Addr} {H1 H2 H3 : Hp} (a : Save p H1 H2) (b : Save p H2 H3) : Save p H1 H3 := fun x o n e => b x o n (a x o n e)
def HasC (K : PySem.W.Frag) (mg : Str → Option Value) (c : Str) (ns : List Str) : Prop := ∃ C, IsCls K c C ∧ mg c = some (.ref C) ∧ Cls K C ∧ ∀ f ∈ ns, NoAttr K C f
def HasM (P : Program) (w : World) (K : PySem.W.Frag) (mg : Str → Option Value) (base : Heap) (CX : CXT) (k : Nat) (c m : Str) (ps : List Str) (sp : Sp) : Prop :=
  ∃ (C f : Addr) (fd : FuncData), IsCls K c C ∧ Cls K C ∧ Meth K C m f ∧ FnOk P w K mg base CX k f fd ps sp ∧ Binds K fd ps []
def HasMk (P : Program) (w : World) (K : PySem.W.Frag) (mg : Str → Option Value) (base : Heap) (k : Nat) (c : Str) (ps : List Str) (sp : Sp) : Prop :=
  ∃ (C f : Addr) (fd : FuncData), IsCls K c C ∧ mg c = some (.ref C) ∧ Mk K C f ∧ FnOk P w K mg base CX0 k f fd ps sp ∧ Binds K fd ps []
def tFldN (K : PySem.W.Frag) (c : Str) (ta : TE) (f : Str) : TE := fun σ H Q => ta σ H fun x H1 => ∃ a fs v, x = .ref a ∧ Ins K c H1 a fs ∧ fs.lookup f = some v ∧ Q v H1
def sFldN (K : PySem.W.Frag) (c : Str) (ta tv : TE) (f : Str) : TS := fun D σ H => tv σ H fun y H1 => ta σ H1 fun x H2 => ∃ a fs, x = .ref a ∧ Ins K c H2 a fs ∧ fs.length < 1000 ∧ ∀ H3, Save a H2 H3 → Ins K c H3 a (putF f y fs) → D.nx σ H3
def tMethN (K : PySem.W.Frag) (c m : Str) (sp : Sp) (E : XK) (ta : TE) (t : TA) : TE := fun σ H Q => ta σ H fun x H1 => ∃ a fs, x = .ref a ∧ Ins K c H1 a fs ∧ fs.lookup m = none ∧ t σ H1 fun vs H2 => sp (x :: vs) H2 Q E
def tMakeN (K : PySem.W.Frag) (c : Str) (sp : Sp) (t : TA) : TE := fun σ H Q => t σ H fun vs H1 => ∀ x H2, H1 x = none → Same H1 H2 → Ins K c H2 x [] → sp (.ref x :: vs) H2 (fun v H3 => v = .non ∧ Q (.ref x) H3) E0
section
variable {X : Cx} {o e value : Expr} {c f m x : Str} {pos pos' apos p : Pos} {ta tv : TE} {t : TA} {es : List Expr} {k : Nat} {ps : List Str} {sp : Sp} {ns : List Str} {E : XK} {CX : CXT}
theorem pe_fldN (hc : HasC X.K X.mg c ns) (hf : f ∈ ns) (he : PE X e ta) (hb : attributeBase e f X.env (eval e X.env) = eval e X.env) : PE X (.Attribute e f pos) (tFldN X.K c ta f) := by
  intro pins s σ H Q I h
  obtain ⟨C, ic, _, cl, no⟩ := hc
  refine attr_of hb (thn (he pins s σ H _ I h) fun u s1 ⟨x, H1, I1, rx, a, fs, v, ex, ⟨C', dx, ic', ea⟩, l, q⟩ => ?_)
  subst ex
  obtain rfl : u = Value.ref a := rx
  have := ic.one ic'
  subst this
  exact getattr_ok I1 ea cl (no f hf) l fun u' s2 I2 ru => ⟨v, H1, I2, ru, q⟩
theorem ps_fldN (hc : HasC X.K X.mg c ns) (hf : f ∈ ns) (ha : PE X o ta) (hv : PE X value tv) (hs : swapsWith value (some (.Attribute o f pos')) pos.line X.env = pure false) : PS X (.Assign [.Attribute o f pos'] value pos) (sFldN X.K c ta tv f) := by
  intro pins s σ H D I h
  obtain ⟨C, ic, _, cl, no⟩ := hc
  refine plainObj_wpAny_Assign_Attribute (thn (hv pins s σ H _ I h) fun u s1 ⟨y, H1, I1, ry, q⟩ => thn (ha pins s1 σ H1 _ I1 q) fun ov s2 ⟨x, H2, I2, rx, a, fs, ex, ⟨C', dx, ic', ea⟩, l, q2⟩ => ?_) hs
  subst ex
  obtain rfl : ov = Value.ref a := rx
  have := ic.one ic'
  subst this
  exact setattr_ok I2 ea cl (no f hf) l ry fun s3 I3 => ⟨σ, _, I3, q2 _ (fun b o n z => by rw [upd_ne n]; exact z) ⟨C, dx, ic, upd_same⟩⟩
theorem pe_methN {pl : Sem Bool} (M : HasM X.prog X.w X.K X.mg X.base CX k c m ps sp) (hr : Room k X.A) (hx : Passes CX X E) (he : PE X o ta) (ha : PA X (e :: es) t)
    (hst : starEach (e :: es) X.env = (false, eval e X.env) :: starEach es X.env := by rfl) (hpl : (backTo pos (starEach es X.env)).any (·.1) = false := by rfl)
    (ht : eval (.Call (.Attribute o m apos) (e :: es) [] pos) X.env = (do
      let ov ← eval o X.env
      standAt apos.atName
      let (f, first) ← holding [ov] (getMethod ov m pl)
      callWith pos f first (backTo pos (starEach (e :: es) X.env)) (backToKw pos (keywordEach [] X.env))) := by rfl) :
    PE X (.Call (.Attribute o m apos) (e :: es) [] pos) (tMethN X.K c m sp E ta t) := by
  intro pins s σ H Q I h
  obtain ⟨C, g, fd, ic, cl, hm, F, hb⟩ := M
  refine PySem.W.methodCall_KW (pl := pl) (thn (he pins s σ H _ I h) fun u s1 ⟨x, H1, I1, rx, a, fs, ex, ⟨C', dx, ic', ea⟩, l, q⟩ => ?_) ht
  subst ex
  obtain rfl : u = Value.ref a := rx
  have := ic.one ic'
  subst this
  refine getmeth_ok I1 ea cl hm l ?_
  refine PySem.W.callWith_K (first := [.ref a]) (h₀ := X.base) I.ok.mod.kin hm.kp (thn (ha pos pins s1 σ H1 _ I1 q) fun us s2 ⟨vs, H2, I2, r, q2⟩ => ⟨I2.kIn, ?_⟩) hst hpl
  exact run_fn (dvs := []) (us := .ref a :: us) (vs := .ref a :: vs) F hr hb .nil hx I2 (.cons rfl r) (by rw [List.append_nil]; exact q2)
theorem pe_meth0N {pl : Sem Bool} (M : HasM X.prog X.w X.K X.mg X.base CX k c m ps sp) (hr : Room k X.A) (hx : Passes CX X E) (he : PE X o ta)
    (ht : eval (.Call (.Attribute o m apos) [] [] pos) X.env = (do
      let ov ← eval o X.env
      standAt apos.atName
      let (f, first) ← holding [ov] (getMethod ov m pl)
      callWith pos f first (backTo pos (starEach [] X.env)) (backToKw pos (keywordEach [] X.env))) := by rfl) :
    PE X (.Call (.Attribute o m apos) [] [] pos) (tMethN X.K c m sp E ta tNil) := by
  intro pins s σ H Q I h
  obtain ⟨C, g, fd, ic, cl, hm, F, hb⟩ := M
  refine PySem.W.methodCall_KW (pl := pl) (thn (he pins s σ H _ I h) fun u s1 ⟨x, H1, I1, rx, a, fs, ex, ⟨C', dx, ic', ea⟩, l, q⟩ => ?_) ht
  subst ex
  obtain rfl : u = Value.ref a := rx
  have := ic.one ic'
  subst this
  refine getmeth_ok I1 ea cl hm l ?_
  exact PySem.W.callWith_K0 (first := [.ref a]) I1.kIn hm.kp (run_fn (dvs := []) (us := [.ref a]) (vs := [.ref a]) F hr hb .nil hx I1 (.cons rfl .nil) q)
theorem pe_makeN (M : HasMk X.prog X.w X.K X.mg X.base k c ps sp) (hr : Room (k + 1) X.A) (hg : Gl X c) (ha : PA X (e :: es) t) (hdb : (c == ("__debug__" : Str)) = false := by decide) (he : starEach (e :: es) X.env = (false, eval e X.env) :: starEach es X.env := by rfl) (hpl : (backTo pos (starEach es X.env)).any (·.1) = false := by rfl) :
    PE X (.Call (.Name c p) (e :: es) [] pos) (tMakeN X.K c sp t) := by
  intro pins s σ H Q I h
  obtain ⟨C, g, fd, ic, hm, M, F, hb⟩ := M
  refine wpAny_Call_Name_kw (ld_glob I hg hm ?_ hdb)
  refine PySem.W.callWith_K (h₀ := X.base) I.ok.mod.kin M.kp (thn (ha pos pins s σ H _ I h) fun us s1 ⟨vs, H1, I1, r, q⟩ => ⟨I1.kIn, ?_⟩) he hpl
  refine run_make (dvs := []) M F hr hb .nil pass0 I1 r fun x dx nx ndx nex => ?_
  rw [List.append_nil]
  refine q x _ nx (fun b o z => ?_) ⟨C, dx, ic, upd_same⟩
  rw [upd_ne (ne_of_none z nx), upd_ne (ne_of_none z ndx)]
  exact z
end
end L2
namespace STab
open PySem PyProof.Rows
section
variable {prog : Program} {w : World} {A : Around} {E : Value → Shared → Prop} {s : Shared}
abbrev NK := Int × List L2.Key
def IsNest (prog : Program) (w : World) (h : Heap) (k : NK) (a : Addr) : Prop := ∃ o v b n, h.get? a = some o ∧ o.cls = .type "tuple" ∧ o.data = .seq #[v, .ref b] n ∧ (L2.mixKind prog w).is (.inl k.1) v = true ∧ IsTupleKey (L2.mixKind prog w) h k.2 b
def nestHash (prog : Program) (w : World) (k : NK) : Int := reduceHash (Builtin.Tuple.tupleHashOf [(L2.mixKind prog w).hash (.inl k.1), tupleKeyHash (L2.mixKind prog w) k.2])
theorem IsNest.typeIs {k : NK} {a : Addr} (x : IsNest prog w s.heap k a) : s.TypeIs (.ref a) "tuple" := let ⟨o, _, _, _, ho, hc, _⟩ := x; ⟨o, ho, hc⟩
theorem IsNest.inj {h : Heap} {a : Addr} {x y : NK} (hx : IsNest prog w h x a) (hy : IsNest prog w h y a) : x = y := by
  obtain ⟨o, v, b, n, ho, _, hd, h1, h2⟩ := hx
  obtain ⟨o', v', b', n', ho', _, hd', h1', h2'⟩ := hy
  obtain rfl : o = o' := Option.some.inj (ho.symm.trans ho')
  rw [hd] at hd'
  injection hd' with e _
  have e := congrArg Array.toList e
  simp only [List.cons.injEq, and_true] at e
  obtain ⟨e1, e2⟩ := e
  subst e1
  cases e2
  have i1 := (L2.mixKind prog w).inj _ _ _ h1 h1'
  have i2 := h2.inj h2'
  obtain ⟨x1, x2⟩ := x
  obtain ⟨y1, y2⟩ := y
  cases i1
  cases i2
  rfl
theorem IsNest.keeps {h h' : Heap} {k : NK} {a d : Addr} {o : Obj} {es ep} (x : IsNest prog w h k a) (ho : h.get? d = some o) (hd : o.data = .dict es ep) (hs : Heap.SameBut d h h') : IsNest prog w h' k a := by
  obtain ⟨o', v, b, n, ho', hc, hd', h1, h2⟩ := x
  have hne : a ≠ d := by
    rintro rfl
    obtain rfl : o' = o := Option.some.inj (ho'.symm.trans ho)
    rw [hd] at hd'; exact nomatch hd'
  exact ⟨o', v, b, n, (hs.2 a hne).trans ho', hc, hd', h1, h2.keeps ho hd hs⟩
theorem nest_hash {k : NK} {a : Addr} {Q : Int → Shared → Prop} (hu : A.units + 1 < cLine) (hk : IsNest prog w s.heap k a) (h : Q (nestHash prog w k) { s with toks := s.toks + (k.2.length + 3) }) :
    wpAny (model prog w) A (pyHash (.ref a)) Q E s := by
  have hT := hk.typeIs
  obtain ⟨o, v, b, n, ho, _, hd, h1, h2⟩ := hk
  have hu0 : A.units < cLine := by omega
  unfold pyHash
  first | unfold pyHashByItsType | skip
  first | refine wpAny_bind (wpAny_cRoomFor_or (.inr hu0) ?_) | skip
  refine wpAny_bind (wpAny_specialOf hT F.slot_tuple_hash.lookup ?_)
  show wpAny _ _ (if (some (Value.builtin "tuple.__hash__") == some Value.none) = true then _ else _) Q E s
  rw [if_neg (by rw [beq_builtin_none]; exact Bool.false_ne_true)]
  refine wpAny_bind (wpAny_specialOf hT F.slot_tuple_hash.lookup ?_)
  show wpAny _ _ (callSpecialIfBoundUnlessNone? (.ref a) "__hash__" _ >>= _) Q E s
  refine wpAny_bind (wpAny_callSpecialIfBoundUnlessNone?_slot hT F.slot_tuple_hash (wpAny_call_entry F.slot_tuple_hash hT F.entry_tuple_hash ?_ (F.args_tuple_hash_1 _)))
  show wpAny _ _ (Builtin.Tuple.tupleItemsOf (.ref a) >>= _) _ _ s
  refine wpAny_bind (wpAny_tupleItemsOf ho hd ?_)
  refine wpAny_bind ?_
  rw [← Array.forIn_toList]
  show wpAny _ _ (forIn [v, Value.ref b] _ _) _ _ _
  rw [List.forIn_cons]
  refine wpAny_bind (wpAny_bind ((L2.mixKind prog w).pyHash h1 ?_))
  refine wpAny_pure ?_
  show wpAny _ _ (forIn [Value.ref b] _ _) _ _ _
  rw [List.forIn_cons]
  refine wpAny_bind (wpAny_bind (wpAny_pyHash_tuple (knd := L2.mixKind prog w) (ks := k.2) (show A.in1.units < cLine from hu) h2 ?_))
  refine wpAny_pure ?_
  show wpAny _ _ (forIn [] _ _) _ _ _
  rw [List.forIn_nil]
  refine wpAny_pure ?_
  show wpAny _ _ (retInt (Builtin.Tuple.tupleHashOf [(L2.mixKind prog w).hash (.inl k.1), tupleKeyHash (L2.mixKind prog w) k.2])) _ _ _
  refine wpAny_ret_mkInt ?_
  show wpAny _ _ (if (decide (-(2 : Int) ^ 63 ≤ Builtin.Tuple.tupleHashOf [(L2.mixKind prog w).hash (.inl k.1), tupleKeyHash (L2.mixKind prog w) k.2]) && decide (Builtin.Tuple.tupleHashOf [(L2.mixKind prog w).hash (.inl k.1), tupleKeyHash (L2.mixKind prog w) k.2] < 2 ^ 63)) = true then _ else _) Q E _
  unfold nestHash reduceHash at h
  have et : s.toks + 1 + (k.2.length + 1) + 1 = s.toks + (k.2.length + 3) := by omega
  by_cases hr : (decide (-(2 : Int) ^ 63 ≤ Builtin.Tuple.tupleHashOf [(L2.mixKind prog w).hash (.inl k.1), tupleKeyHash (L2.mixKind prog w) k.2]) && decide (Builtin.Tuple.tupleHashOf [(L2.mixKind prog w).hash (.inl k.1), tupleKeyHash (L2.mixKind prog w) k.2] < 2 ^ 63)) = true
  · rw [if_pos hr]
    rw [if_pos hr, ← et] at h
    exact wpAny_pure h
  · rw [if_neg hr]
    rw [if_neg hr, ← et] at h
    exact wpAny_bind (wpAny_rule (wpAny_pure h))
theorem nest_eq {x y : NK} {a b : Addr} {Q : Bool → Shared → Prop} (hu : A.units + 1 < cLine) (hx : IsNest prog w s.heap x a) (hy : IsNest prog w s.heap y b) (h : Q (decide (x = y)) s) :
    wpAny (model prog w) A (eqBool (.ref a) (.ref b)) Q E s := by
  unfold eqBool
  try with_reducible refine wpAny_holding ?_
  show wpAny _ _ (if (Value.ref a == Value.ref b) = true then _ else _) Q E s
  by_cases hab : (Value.ref a == Value.ref b) = true
  · rw [if_pos hab]
    have e : a = b := by have := eq_of_beq hab; injection this
    subst e
    obtain rfl := hx.inj hy
    exact wpAny_bind (wpAny_rule (wpAny_pure (by simpa using h)))
  · rw [if_neg hab]
    have hTa := hx.typeIs
    have hTb := hy.typeIs
    refine wpAny_bind (wpAny_richCompare_same_room (op := .Eq) hTa hTb F.slot_tuple_eq
      (wpAny_call_entry F.slot_tuple_eq hTa F.entry_tuple_eq ?_ (F.args_tuple_eq_2 _ _)) (by omega))
    obtain ⟨oa, v, ba, na, hoa, _, hda, h1, h2⟩ := hx
    obtain ⟨ob, u, bb, nb, hob, _, hdb, k1, k2⟩ := hy
    show wpAny _ _ (isInstance (.ref b) (.type "tuple") >>= _) _ _ s
    refine wpAny_bind (wpAny_isInstance hTb isSubtype_tuple_tuple ?_)
    simp only [Bool.not_true, Bool.false_eq_true, if_false]
    refine wpAny_bind (wpAny_tupleItemsOf hoa hda ?_)
    refine wpAny_bind (wpAny_tupleItemsOf hob hdb ?_)
    refine wpAny_bind ?_
    show wpAny _ _ (forIn [(v, u), (Value.ref ba, Value.ref bb)] _ _) _ _ _
    rw [List.forIn_cons]
    refine wpAny_bind (wpAny_bind ((L2.mixKind prog w).eqBool (a := .inl x.1) (b := .inl y.1) h1 k1 ?_))
    have fin : ∀ r : Bool, r = decide (x = y) → Q r s := fun r e => by rw [e]; exact h
    have yes : ∀ r : Bool, r = decide (x = y) → wpAny (model prog w) A (truthy (.bool r)) Q E s := fun r e => wpAny_truthy_bool (fin r e)
    by_cases e1 : (Sum.inl x.1 : L2.Key) = Sum.inl y.1
    · rw [decide_eq_true e1]
      simp only [Bool.not_true, Bool.false_eq_true, if_false]
      refine wpAny_pure ?_
      show wpAny _ _ (forIn [(Value.ref ba, Value.ref bb)] _ _) _ _ _
      rw [List.forIn_cons]
      refine wpAny_bind (wpAny_bind (wpAny_eqBool_tuple (knd := L2.mixKind prog w) (show A.in1.units < cLine from hu) h2 k2 ?_))
      by_cases e2 : x.2 = y.2
      · rw [decide_eq_true e2]
        simp only [Bool.not_true, Bool.false_eq_true, if_false]
        refine wpAny_pure ?_
        show wpAny _ _ (forIn [] _ _) _ _ _
        rw [List.forIn_nil]
        refine wpAny_pure ?_
        refine wpAny_pure ⟨_, rfl, (fun e => nomatch e), yes _ ?_⟩
        have : x = y := Prod.ext (Sum.inl.inj e1) e2
        rw [decide_eq_true this]
        rfl
      · rw [decide_eq_false e2]
        simp only [Bool.not_false, if_true]
        refine wpAny_bind (wpAny_pure (wpAny_pure (wpAny_pure (wpAny_pure ⟨_, rfl, (fun e => nomatch e), yes _ ?_⟩))))
        rw [decide_eq_false fun e => e2 (congrArg Prod.snd e)]
    · rw [decide_eq_false e1]
      simp only [Bool.not_false, if_true]
      refine wpAny_bind (wpAny_pure (wpAny_pure (wpAny_pure (wpAny_pure ⟨_, rfl, (fun e => nomatch e), yes _ ?_⟩))))
      rw [decide_eq_false fun e => e1 (congrArg (fun z : NK => (Sum.inl z.1 : L2.Key)) e)]
theorem quiet_tuple {K : Type} [DecidableEq K] {knd : KeyKind prog w K} {m : Nat} {ks : List K} {a : Addr} {Q : Bool → Shared → Prop} (hk : IsTupleKey knd s.heap ks a) (h : Q true s) : wpAny (model prog w) A (eqIsQuiet (m + 1) (.ref a)) Q E s := by
  have hT := hk.typeIs
  obtain ⟨o, items, n, ho, _, hd, hi⟩ := hk
  unfold eqIsQuiet
  refine wpAny_bind (wpAny_specialOf hT F.slot_tuple_eq.lookup ?_)
  show wpAny _ _ (isInstance (.ref a) (.type "tuple") >>= _) _ _ s
  refine wpAny_bind (wpAny_isInstance hT isSubtype_tuple_tuple ?_)
  simp only [Bool.not_true, Bool.false_eq_true, if_false]
  refine wpAny_bind (wpAny_seqItems ho hd ?_)
  refine wpAny_bind ?_
  show wpAny _ _ (forIn items _ _) _ _ s
  rw [← Array.forIn_toList]
  refine wpAny_forIn_list _ (fun rest r s' => r.1 = none ∧ s' = s ∧ ∀ v ∈ rest, carriedByValue v = true) _ ?_ ?_ _ _ ⟨rfl, rfl, hi.byValue⟩
  · rintro v rest r s' ⟨hr, rfl, hall⟩
    rw [eqIsQuiet_byValue _ (hall v List.mem_cons_self)]
    refine wpAny_bind (wpAny_pure ?_)
    simp only [Bool.not_true, Bool.false_eq_true, if_false]
    exact wpAny_pure ⟨rfl, rfl, fun u hu' => hall u (List.mem_cons_of_mem _ hu')⟩
  · rintro ⟨r1, r2⟩ s' ⟨hr, rfl, _⟩
    simp only at hr
    subst hr
    exact wpAny_pure h
theorem nest_quiet {k : NK} {a : Addr} {Q : Bool → Shared → Prop} (hk : IsNest prog w s.heap k a) (h : Q true s) : wpAny (model prog w) A (eqIsQuiet 8 (.ref a)) Q E s := by
  have hT := hk.typeIs
  obtain ⟨o, v, b, n, ho, _, hd, h1, h2⟩ := hk
  unfold eqIsQuiet
  refine wpAny_bind (wpAny_specialOf hT F.slot_tuple_eq.lookup ?_)
  show wpAny _ _ (isInstance (.ref a) (.type "tuple") >>= _) _ _ s
  refine wpAny_bind (wpAny_isInstance hT isSubtype_tuple_tuple ?_)
  simp only [Bool.not_true, Bool.false_eq_true, if_false]
  refine wpAny_bind (wpAny_seqItems ho hd ?_)
  refine wpAny_bind ?_
  show wpAny _ _ (forIn (#[v, Value.ref b] : Array Value) _ _) _ _ s
  rw [← Array.forIn_toList]
  show wpAny _ _ (forIn [v, Value.ref b] _ _) _ _ s
  rw [List.forIn_cons]
  refine wpAny_bind (wpAny_bind ?_)
  rw [eqIsQuiet_byValue _ ((L2.mixKind prog w).byValue _ _ h1)]
  refine wpAny_pure ?_
  simp only [Bool.not_true, Bool.false_eq_true, if_false]
  refine wpAny_pure ?_
  show wpAny _ _ (forIn [Value.ref b] _ _) _ _ s
  rw [List.forIn_cons]
  refine wpAny_bind (wpAny_bind (quiet_tuple (m := 6) h2 ?_))
  simp only [Bool.not_true, Bool.false_eq_true, if_false]
  refine wpAny_pure ?_
  show wpAny _ _ (forIn [] _ _) _ _ s
  rw [List.forIn_nil]
  refine wpAny_pure ?_
  exact wpAny_pure h
end
def nestKind (prog : Program) (w : World) : HeapKind prog w NK where
  is := IsNest prog w
  hash := nestHash prog w
  draws := fun k => k.2.length + 3
  room := fun A => A.units + 1 < cLine
  inj := fun hx hy => hx.inj hy
  keeps := fun x ho hd hs => x.keeps ho hd hs
  pyHash := fun hu hk h => nest_hash hu hk h
  eqBool := fun hu hx hy h => nest_eq hu hx hy h
  quiet := fun hk h => nest_quiet hk h
section
variable {prog : Program} {w : World} {A : Around} {E : Value → Shared → Prop} {s : Shared} {K : Type} [DecidableEq K] {knd : HeapKind prog w K}
theorem setDefault_heap {d a : Addr} {xs : List (K × Addr × Value)} {k : K} {v : Value} {Q : Value → Shared → Prop} (hu : knd.room A) (hkey : knd.is s.heap k a) (hm : s.heap.DictOfH knd d xs) (hsz : xs.length ≤ sizeLine)
    (there : ∀ p, atKey xs k = some p → Q p.2 { s with toks := s.toks + knd.draws k })
    (new : atKey xs k = none → ∀ h', h'.DictOfH knd d (xs ++ [(k, a, v)]) → Heap.SameBut d s.heap h' → Q v { s with heap := h', toks := s.toks + knd.draws k }) :
    wpAny (model prog w) A (dictSetDefault d (.ref a) v) Q E s := by
  obtain ⟨o, es, ep, ho, hc, hd, he, his, hn⟩ := hm
  unfold dictSetDefault
  try with_reducible refine wpAny_holding ?_
  refine wpAny_bind (knd.pyHash hu hkey (wpAny_bind (wpAny_dictFind_heap (s := { s with toks := s.toks + knd.draws k }) hu hkey ho hd he his hn ?_ ?_)))
  · intro hno
    have hnot : k ∉ xs.map (·.1) := not_mem_keys_of_get hno
    refine wpAny_bind (wpAny_rule (wpAny_bind (wpAny_updateDictKeys (hz := by have e := size_of_entries he; omega) (s := { s with toks := s.toks + knd.draws k }) ho hd (wpAny_pure (new (atKey_none_of_get hno) _ ⟨_, _, ep + 1, Heap.get?_update_self _ ho (Obj.isFreed_of_dict (Obj.data_mapDictKeys hd _)),
      hc.mapDictKeys _, Obj.data_mapDictKeys hd _, ?_, ?_, ?_⟩ (Heap.SameBut.update ..))))))
    · simp [he, entryOfKey]
    · intro x hx
      rcases List.mem_append.mp hx with hx | hx
      · exact knd.keeps (his x hx) ho hd (Heap.SameBut.update ..)
      · simp only [List.mem_singleton] at hx
        subst hx
        exact knd.keeps hkey ho hd (Heap.SameBut.update ..)
    · rw [List.map_append, List.nodup_append]
      refine ⟨hn, by simp, ?_⟩
      intro x hx y hy
      simp only [List.map_cons, List.map_nil, List.mem_singleton] at hy
      subst hy
      exact fun e => hnot (e ▸ hx)
  · intro j p hj
    refine wpAny_bind (wpAny_dictEntries (s := { s with toks := s.toks + knd.draws k }) ho hd ?_)
    rw [entry_at he j, hj]
    exact wpAny_bind (wpAny_rule (wpAny_pure (there p (atKey_of_get hn hj))))
end
end STab
namespace STab
open PySem PyProof.Rows
section
variable {prog : Program} {w : World} {K : Type} [DecidableEq K] (knd : HeapKind prog w K) (d a : Addr)
theorem meetsH_setdefault (hd : (d == sysModules) = false) (dflt : Value) :
    MeetsIn prog w (Builtin.«dict.setdefault» ⟨[.ref d, .ref a, dflt], []⟩) (fun A R s => knd.room A.in1 ∧ ∃ k xs, knd.is s.heap k a ∧ s.heap.DictOfH knd d xs ∧ xs.length ≤ sizeLine ∧
      (∀ p, atKey xs k = some p → R (.ok (.ret p.2)) { s with toks := s.toks + knd.draws k }) ∧
      (atKey xs k = none → ∀ h', h'.DictOfH knd d (xs ++ [(k, a, dflt)]) → Heap.SameBut d s.heap h' → R (.ok (.ret dflt)) { s with heap := h', toks := s.toks + knd.draws k })) :=
  .of_wp fun A R s ⟨hu, k, xs, hkey, hm, hz, h1, h2⟩ => by
    unfold Builtin.«dict.setdefault»
    refine wpAny_bind ?_
    unfold Builtin.Dict.keyAndDefault
    refine wpAny_bind (wpAny_notOrdered_dict hm.typeIs ?_)
    show wpAny _ _ (pure (d, Value.ref a, some dflt)) _ _ s
    refine wpAny_pure ?_
    show wpAny _ _ (if (d == sysModules) = true then _ else (dictSetDefault d (.ref a) dflt >>= _)) _ _ s
    rw [if_neg (by rw [hd]; exact Bool.false_ne_true)]
    exact wpAny_bind (setDefault_heap hu hkey hm hz (fun p hp => wpAny_pure ⟨_, rfl, h1 p hp⟩) fun hn h' hm' hs' => wpAny_pure ⟨dflt, rfl, h2 hn h' hm' hs'⟩)
end
end STab
namespace L2
open PySem PySem.Spec PyProof.Rows STab
abbrev KN := List (NK × Addr × V)
def dnOk (w : World) (a : Addr) (kvs : KN) (h : Heap) : Prop :=
  kvs.length ≤ sizeLine ∧ (a == sysModules) = false ∧ ∃ xs : List (NK × Addr × Value), Paired (fun p q => p.1 = q.1 ∧ p.2.1 = q.2.1 ∧ RelV p.2.2 q.2.2) kvs xs ∧
    ∃ o es ep, h.get? a = some o ∧ o.ExactDict ∧ o.data = .dict es ep ∧ (∀ P : Program, es.toList = xs.map (entryOfKey (nestKind P w))) ∧ (xs.map (·.1)).Nodup
def dN (w : World) (a : Addr) (kvs : KN) : HO := .ext (dnOk w a kvs)
def NestR (H : Hp) (b : Addr) (k : NK) : Prop := ∃ c, H b = some (.tup [.int k.1, .ref c]) ∧ H c = some (.tup (k.2.map kV))
theorem NestR.tk {H H' : Hp} {b : Addr} {k : NK} (t : TupKeep H H') (r : NestR H b k) : NestR H' b k := let ⟨c, h1, h2⟩ := r; ⟨c, t _ _ h1, t _ _ h2⟩
def KeysN (H : Hp) (kvs : KN) : Prop := ∀ q ∈ kvs, NestR H q.2.1 q.1
theorem KeysN.tk {H H' : Hp} {kvs : KN} (t : TupKeep H H') (r : KeysN H kvs) : KeysN H' kvs := fun q hq => (r q hq).tk t
def atN (kvs : KN) (k : NK) : Option V := (kvs.find? fun q => decide (q.1 = k)).map (·.2.2)
theorem dn_obj {P : Program} {w : World} {H : Hp} {h : Heap} {a : Addr} {kvs : KN} (q : dnOk w a kvs h) : ObjOk P w H h a (dN w a kvs) := by
  refine ⟨q, ?_, fun h1 h2 ⟨z, y, xs, r, o, es, ep, e, rest⟩ k => ⟨z, y, xs, r, o, es, ep, k o e, rest⟩⟩
  obtain ⟨_, _, _, _, o, _, _, e, _⟩ := q
  exact ⟨o, e⟩
theorem dn_val : ∀ {kvs : KN} {xs : List (NK × Addr × Value)}, Paired (fun (p : NK × Addr × V) (q : NK × Addr × Value) => p.1 = q.1 ∧ p.2.1 = q.2.1 ∧ RelV p.2.2 q.2.2) kvs xs → ∀ k, match atN kvs k with | none => atKey xs k = none | some v => ∃ b u, atKey xs k = some (b, u) ∧ RelV v u
  | _, _, .nil, _ => rfl
  | _, _, .cons (a := p) (b := q) r t, k => by
    obtain ⟨h1, h2, h3⟩ := r
    have ih := dn_val t k
    by_cases e : p.1 = k
    · have e1 : ∀ kvs : KN, atN (p :: kvs) k = some p.2.2 := fun kvs => by unfold atN; rw [List.find?_cons_of_pos (by simpa using e)]; rfl
      rw [e1]
      refine ⟨q.2.1, q.2.2, ?_, h3⟩
      unfold atKey
      rw [List.find?_cons_of_pos (by simpa [← h1] using e)]
      rfl
    · have e1 : ∀ kvs : KN, atN (p :: kvs) k = atN kvs k := fun kvs => by unfold atN; rw [List.find?_cons_of_neg (by simpa using e)]
      have e2 : ∀ xs : List (NK × Addr × Value), atKey (q :: xs) k = atKey xs k := fun xs => by unfold atKey; rw [List.find?_cons_of_neg (by simpa [← h1] using e)]
      rw [e1, e2]
      exact ih
section
variable {X : Cx} {pins : List (Addr × Obj)} {σ : St} {H : Hp} {s : Shared} {a b : Addr} {kvs : KN} {k : NK}
theorem Inv.nestAt (I : Inv X pins σ H s) (h : NestR H b k) : IsNest X.prog X.w s.heap k b := by
  obtain ⟨c, h1, h2⟩ := h
  obtain ⟨its, r, ⟨o, e1, e2, n, e3⟩, _⟩ := I.tuple (SqT.of h1)
  cases r with
  | cons ra r =>
    cases r with
    | cons rb r =>
      cases r
      cases rb
      exact ⟨o, _, c, n, e1, e2, e3, key_is (k := .inl k.1) ra, I.keyAt (SqT.of h2)⟩
theorem Inv.dn (I : Inv X pins σ H s) (e : H a = some (dN X.w a kvs)) (ok : KeysN H kvs) : kvs.length ≤ sizeLine ∧ (a == sysModules) = false ∧ ∃ xs, Paired (fun (p : NK × Addr × V) (q : NK × Addr × Value) => p.1 = q.1 ∧ p.2.1 = q.2.1 ∧ RelV p.2.2 q.2.2) kvs xs ∧ s.heap.DictOfH (nestKind X.prog X.w) a xs := by
  obtain ⟨⟨z, y, xs, r, o, es, ep, h1, h2, h3, h4, h5⟩, _⟩ := (show ObjOk X.prog X.w H s.heap a (dN X.w a kvs) from I.hok a _ e)
  refine ⟨z, y, xs, r, o, es, ep, h1, h2, h3, h4 _, ?_, h5⟩
  have all : ∀ {l : KN} {m : List (NK × Addr × Value)}, Paired (fun (p : NK × Addr × V) (q : NK × Addr × Value) => p.1 = q.1 ∧ p.2.1 = q.2.1 ∧ RelV p.2.2 q.2.2) l m → (∀ q ∈ l, NestR H q.2.1 q.1) → ∀ x ∈ m, (nestKind X.prog X.w).is s.heap x.1 x.2.1 := by
    intro l m q
    induction q with
    | nil => intro _ x hx; exact nomatch hx
    | @cons p q ps qs hq t ih =>
      intro f x hx
      rcases List.mem_cons.mp hx with e | hx
      · subst e
        have := I.nestAt (f p (List.mem_cons_self ..))
        rw [hq.1, hq.2.1] at this
        exact this
      · exact ih (fun q hq => f q (List.mem_cons_of_mem _ hq)) x hx
  exact all r ok
theorem dn_write {h' : Heap} {t' : Nat} {kvs' : KN} {xs' : List (NK × Addr × Value)} (I : Inv X pins σ H s) (e : H a = some (dN X.w a kvs)) (y : (a == sysModules) = false) (z : kvs'.length ≤ sizeLine)
    (r : Paired (fun (p : NK × Addr × V) (q : NK × Addr × Value) => p.1 = q.1 ∧ p.2.1 = q.2.1 ∧ RelV p.2.2 q.2.2) kvs' xs') (dd : h'.DictOfH (nestKind X.prog X.w) a xs') (hs : Heap.SameBut a s.heap h') : Inv X pins σ (upd H a (dN X.w a kvs')) { s with heap := h', toks := t' } := by
  obtain ⟨o, es, ep, h1, h2, h3, h4, _, h5⟩ := dd
  exact I.write (x := a) (e := a) (by rw [e]; exact True.intro) (.inl rfl) (fun b q hb z => (hs.2 b hb).trans z) ⟨o, h1⟩ (dn_obj ⟨z, y, xs', r, o, es, ep, h1, h2, h3, fun _ => h4, h5⟩)
end
def tNNil (w : World) : TE := fun _ H Q => ∀ p, H p = none → Q (.ref p) (upd H p (dN w p []))
theorem pe_nnil {X : Cx} {pos : Pos} : PE X (.Dict [] [] pos) (tNNil X.w) := by
  intro pins s σ H Q I h
  have hn := I.hok.fresh (Nat.le_refl s.heap.objs.size)
  have big : sysModules < s.heap.objs.size := Nat.lt_trans (by decide) (show mainGlobals < s.heap.objs.size from (I.mod.glob.keeps I.bk).lt)
  have I1 := I.laid (a := s.heap.objs.size) (o := dN X.w s.heap.objs.size []) (h' := s.heap.push { cls := .type "dict", data := .dict #[] }) (t' := s.toks) (fun _ _ q => Heap.get?_push_of_some _ q) (Nat.le_refl _)
    (dn_obj ⟨Nat.zero_le _, beq_eq_false_iff_ne.mpr (Ne.symm (Nat.ne_of_lt big)), [], .nil, _, #[], 0, Heap.get?_push_size _ rfl, ⟨rfl, rfl, rfl⟩, rfl, fun _ => rfl, List.nodup_nil⟩)
  exact wpAny_Dict_empty ⟨.ref s.heap.objs.size, _, I1, rfl, h _ hn⟩
end L2
namespace L2
open PySem PySem.Spec PyProof.Rows STab
theorem Save.upd {a : Addr} {H : Hp} {o : HO} : Save a H (upd H a o) := fun b u n e => by rw [upd_ne n]; exact e
section
variable {X : Cx} {o i e value : Expr} {pos pos' apos cpos : Pos} {td ty tv to : TE} {t : TA} {es : List Expr}
def rAppendG : V → List V → Hp → VK → Prop := fun x vs H Q => ∃ l xs y, x = .ref l ∧ vs = [y] ∧ H l = some (.lst xs) ∧ xs.length < sizeLine ∧ ∀ H', Save l H H' → H' l = some (.lst (xs ++ [y])) → Q .non H'
theorem mt_appendG : MtM X "list.append" rAppendG := fun pins s σ H x vs v us Q I rx rv ⟨l, xs, y, e1, e2, h, z, q⟩ => mt_append pins s σ H x vs v us Q I rx rv ⟨l, xs, y, e1, e2, h, z, q _ Save.upd upd_same⟩
def tXNilG (w : World) : TE := fun _ H Q => ∀ p H', Same H H' → H p = none → H' p = some (dX w p []) → Q (.ref p) H'
theorem pe_xnilG : PE X (.Dict [] [] pos) (tXNilG X.w) := fun pins s σ H Q I h => pe_xnil pins s σ H Q I fun p p0 => h p _ (Same.new p0) p0 upd_same
def tNNilG (w : World) : TE := fun _ H Q => ∀ p H', Same H H' → H p = none → H' p = some (dN w p []) → Q (.ref p) H'
theorem pe_nnilG : PE X (.Dict [] [] pos) (tNNilG X.w) := fun pins s σ H Q I h => pe_nnil pins s σ H Q I fun p p0 => h p _ (Same.new p0) p0 upd_same
def sXPutG (w : World) (K : PySem.W.Frag) (td ty tv : TE) : TS := fun D σ H => tv σ H fun v H1 => td σ H1 fun x H2 => ty σ H2 fun y H3 => ∃ a b k kvs, x = .ref a ∧ y = .ref b ∧ H3 a = some (dX w a kvs) ∧ KeysOk K H3 kvs ∧ SqT K H3 b (k.map kV) ∧ kvs.length < sizeLine ∧ ∀ H4, Save a H3 H4 → H4 a = some (dX w a (putX kvs k b v)) → D.nx σ H4
theorem ps_xputG (hu : X.A.units + 1 < cLine) (ho : PE X o td) (hi : PE X i ty) (hv : PE X value tv) (hs : swapsWith value (some (.Subscript o i pos')) pos.line X.env = pure false) :
    PS X (.Assign [.Subscript o i pos'] value pos) (sXPutG X.w X.K td ty tv) := by
  intro pins s σ H D I h
  refine wpAny_Assign_Subscript (thn (hv pins s σ H _ I h) fun r s1 ⟨v, H1, I1, rv, q1⟩ => thn (ho pins s1 σ H1 _ I1 q1) fun u s2 ⟨x, H2, I2, rx, q2⟩ => thn (hi pins s2 σ H2 _ I2 q2) fun iv s3 ⟨y, H3, I3, ry, a, b, k, kvs, ex, ey, e, ok, hk, hz, q3⟩ => ?_) hs
  subst ex; subst ey
  obtain rfl : u = Value.ref a := rx
  obtain rfl : iv = Value.ref b := ry
  obtain ⟨z, hd, xs, rr, dd⟩ := I3.dx e ok
  have lx := prd_len rr
  refine wpAny_setItem_heap (hsz := by omega) (rm1 hu) (I3.keyAt hk) dd fun h' dd' hs' => ⟨σ, _, ?_, q3 _ Save.upd upd_same⟩
  exact dx_write I3 e hd (by have := putX_len kvs k b v; omega) (dx_stored rr k b rv) dd' hs'
def sdArgsG (w : World) (a : Addr) (Q : VK) : List V → Hp → Prop
  | [y, v], H => ∃ b k kvs, y = .ref b ∧ H a = some (dN w a kvs) ∧ KeysN H kvs ∧ NestR H b k ∧ kvs.length < sizeLine ∧ (∀ u, atN kvs k = some u → Q u H) ∧ (atN kvs k = none → ∀ H', Save a H H' → H' a = some (dN w a (kvs ++ [(k, b, v)])) → Q v H')
  | _, _ => False
def tSetDefG (w : World) (to : TE) (t : TA) : TE := fun σ H Q => to σ H fun x H1 => ∃ a kvs, x = .ref a ∧ H1 a = some (dN w a kvs) ∧ t σ H1 fun xs H2 => sdArgsG w a Q xs H2
theorem pe_setdefG (hu : X.A.units + 2 < cLine) (ho : PE X o to) (ha : PA X (e :: es) t)
    (hbase : attributeBase o "setdefault" X.env (eval o X.env) = eval o X.env := by rfl)
    (hfew : ((backTo cpos (starEach (e :: es) X.env)).all (fun x => !x.1) && (backToKw cpos (keywordEach [] X.env)).all (fun x => x.1.isSome)
      && decide ((e :: es).length + ([] : List Keyword).length + (if ([] : List Keyword).isEmpty then 0 else 1) < 30)) = true := by rfl)
    (hline : (apos.endLine == cpos.line) = true := by rfl) (hs : starEach (e :: es) X.env = (false, eval e X.env) :: starEach es X.env := by rfl) (hplain : (backTo cpos (starEach es X.env)).any (·.1) = false := by rfl) :
    PE X (.Call (.Attribute o "setdefault" apos) (e :: es) [] cpos) (tSetDefG X.w to t) := by
  intro pins s σ H Q I h
  refine wpAny_Call_method_late hbase hfew hline rfl (thn (ho pins s σ H _ I h) fun v s1 ⟨x, H1, I1, r1, a, kvs, ex, ea, q1⟩ => ?_)
  subst ex
  obtain rfl : v = Value.ref a := r1
  obtain ⟨⟨_, _, _, _, od, _, _, e1, e2, _⟩, _⟩ := (show ObjOk X.prog X.w H1 s1.heap a (dN X.w a kvs) from I1.hok a _ ea)
  refine ⟨"dict", "dict.setdefault", PySem.F.plainAttrs_dict, PySem.F.slot_dict_setdefault, PySem.F.type_dict_setdefault, ⟨od, e1, e2.1⟩, fun b eb => ?_, ?_⟩
  · cases eb
    exact ⟨od, e1, e2.2.1⟩
  have hA := ha cpos pins s1 σ H1 _ I1 q1
  rw [hs] at hA ⊢
  refine Calls.callWith_builtin (by show (false || (backTo cpos (starEach es X.env)).any (·.1)) = false; rw [hplain] <;> rfl) (Calls.evalArgs_plain ?_)
  refine thn hA fun us s2 ⟨vs, H2, I2, r2, q2⟩ => ?_
  rcases vs with _ | ⟨y, _ | ⟨v, _ | ⟨_, _⟩⟩⟩
  · exact False.elim q2
  · exact False.elim q2
  · obtain ⟨b, k, kvs2, ey, ea2, ok, hk, hz, q3, q4⟩ := q2
    subst ey
    obtain ⟨u1, u2, rfl, ru1, ru2⟩ := vals2 r2
    cases ru1
    obtain ⟨z, hd, xs, rr, dd⟩ := I2.dn ea2 ok
    have lx := prd_len rr
    have val := dn_val rr k
    refine call_meetsIn PySem.F.slot_dict_setdefault dd.typeIs PySem.F.entry_dict_setdefault (PySem.F.args_dict_setdefault_3 _ _ _) (meetsH_setdefault (nestKind X.prog X.w) a b hd u2) ⟨(show X.A.units + 1 + 1 < cLine by omega), k, xs, I2.nestAt hk, dd, by omega, fun p hp => ?_, fun hn h' dd' hs' => ?_⟩
    · cases ev : atN kvs2 k with
      | none => rw [ev] at val; rw [show atKey xs k = none from val] at hp; cases hp
      | some w' =>
        rw [ev] at val
        obtain ⟨b', u', e', rv⟩ := val
        rw [e'] at hp
        cases hp
        exact ⟨w', H2, I2.tok _, rv, q3 w' ev⟩
    · cases ev : atN kvs2 k with
      | some w' =>
        rw [ev] at val
        obtain ⟨b', u', e', rv⟩ := val
        rw [e'] at hn
        cases hn
      | none => exact ⟨v, _, dn_write I2 ea2 hd (by rw [List.length_append, List.length_singleton]; omega) (prd_append rr (.cons ⟨rfl, rfl, ru2⟩ .nil)) dd' hs', ru2, q4 ev _ Save.upd upd_same⟩
  · exact False.elim q2
end
end L2
namespace L2
open PySem PySem.Spec PyProof.Rows
section
variable {X : Cx}
theorem call_maxL (hc : X.calm = true) : CallR X (.builtin "max") (fun xs H Q => ∃ (p : Addr) (ns : List Int), xs = [.ref p] ∧ SqL X.K H p (ns.map V.int) ∧ 0 < ns.length ∧ ∀ m, m ∈ ns → (∀ a ∈ ns, a ≤ m) → Q (.int m) H) := by
  intro pins s σ H xs us Q I r h
  obtain ⟨p, ns, rfl, hq, hne, q⟩ := h
  obtain ⟨u, rfl, ru⟩ := vals1 r
  cases ru
  obtain ⟨its, rv, pl, hz⟩ := I.list hq
  have hi : IntsAre its ns := intsAre_of rv
  obtain ⟨xs, ex⟩ := hi.allInts.items
  have hl := pl.isList
  rw [ex] at hl
  have e1 : xs.toList.map (·.1) = ns := by rw [← nums_intItems, ← ex, ← hi.numsOf]
  have lx : xs.size = ns.length := by rw [← e1, List.length_map]; simp
  have en : ∀ i, i < xs.size → numAt xs i = ns.getD i 0 := fun i hi => by
    obtain ⟨t, ht⟩ := intItems_at (xs := xs) (i := i) (v := Value.int (xs[i]).1 (xs[i]).2) (by simp [intItems, hi])
    have ht := (Value.int.inj ht).1
    rw [← ht, ← e1, List.getD_eq_getElem?_getD, List.getElem?_map]
    simp [hi]
  refine max_intList (I.ok.hd hc) hl (by omega) fun v h' tk hv k => ?_
  obtain ⟨t, rfl⟩ := intItems_at hv
  have lt := best_lt (fun i j => decide (numAt xs i > numAt xs j)) (xs.size - 1)
  refine ⟨.int _, H, I.kept k, ⟨t, rfl⟩, q _ ?_ fun a ha => ?_⟩
  · rw [en _ (by omega), List.getD_eq_getElem?_getD, List.getElem?_eq_getElem (by omega)]
    exact List.getElem_mem _
  · obtain ⟨j, hj⟩ := List.getElem?_of_mem ha
    have jl := (List.getElem?_eq_some_iff.mp hj).1
    have := best_le (lt := fun a b : Int => decide (a > b)) (fun a => decide_eq_false (by omega)) (fun a b c h1 h2 => decide_eq_true (by have := of_decide_eq_true h1; have := of_decide_eq_true h2; omega)) (fun i => numAt xs i) (xs.size - 1) j (by omega)
    have := of_decide_eq_false this
    rw [en j (by omega), List.getD_eq_getElem?_getD, hj] at this
    exact Int.not_lt.mp this
end
end L2
namespace My
open PySem L2
def top (i : Nat) : Stmt := PySem.Challenge.pw_tonemirror_k53_whole_kept_alike.main.body.getD i (.Pass ⟨0, 0, 0, 0⟩)
theorem find_at {α : Type} (g : Nat → α) [DecidableEq α] {m : Nat} (inj : ∀ i j, i < m → j < m → g i = g j → i = j) {f : Nat → V} {k : Nat} (hk : k < m) : (((List.range m).map fun i => (g i, f i)).find? fun q => decide (q.1 = g k)).map (·.2) = some (f k) := by
  have hs : (((List.range m).map fun i => (g i, f i)).find? fun q => decide (q.1 = g k)).isSome = true := by
    rw [List.find?_isSome]
    exact ⟨(g k, f k), List.mem_map.mpr ⟨k, List.mem_range.mpr hk, rfl⟩, decide_eq_true rfl⟩
  obtain ⟨q, hq⟩ := Option.isSome_iff_exists.mp hs
  have h1 := List.find?_some hq
  have h2 := List.mem_of_find?_eq_some hq
  obtain ⟨i, hi, e⟩ := List.mem_map.mp h2
  have h1 : q.1 = g k := of_decide_eq_true h1
  have : i = k := inj i k (List.mem_range.mp hi) hk (by rw [← h1, ← e])
  rw [hq, ← e, this]
  rfl

theorem ne_n_crowds : ¬ (("n" : Str) = "crowds") := by decide +kernel
theorem ne_n_rolls : ¬ (("n" : Str) = "rolls") := by decide +kernel
theorem ne_n_kinds : ¬ (("n" : Str) = "kinds") := by decide +kernel
theorem ne_n_groups : ¬ (("n" : Str) = "groups") := by decide +kernel
theorem ne_crowds_rolls : ¬ (("crowds" : Str) = "rolls") := by decide +kernel
theorem ne_crowds_kinds : ¬ (("crowds" : Str) = "kinds") := by decide +kernel
theorem ne_crowds_groups : ¬ (("crowds" : Str) = "groups") := by decide +kernel
theorem ne_rolls_kinds : ¬ (("rolls" : Str) = "kinds") := by decide +kernel
theorem ne_rolls_groups : ¬ (("rolls" : Str) = "groups") := by decide +kernel
theorem ne_kinds_groups : ¬ (("kinds" : Str) = "groups") := by decide +kernel
theorem ne_told_n : ¬ (("told" : Str) = "n") := by decide +kernel
theorem ne_told_crowds : ¬ (("told" : Str) = "crowds") := by decide +kernel
theorem ne_told_rolls : ¬ (("told" : Str) = "rolls") := by decide +kernel
theorem ne_told_kinds : ¬ (("told" : Str) = "kinds") := by decide +kernel
theorem ne_told_groups : ¬ (("told" : Str) = "groups") := by decide +kernel
theorem ne_kind_of_n : ¬ (("kind_of" : Str) = "n") := by decide +kernel
theorem ne_kind_of_crowds : ¬ (("kind_of" : Str) = "crowds") := by decide +kernel
theorem ne_kind_of_rolls : ¬ (("kind_of" : Str) = "rolls") := by decide +kernel
theorem ne_kind_of_kinds : ¬ (("kind_of" : Str) = "kinds") := by decide +kernel
theorem ne_kind_of_groups : ¬ (("kind_of" : Str) = "groups") := by decide +kernel
theorem ne_new_kind_n : ¬ (("new_kind" : Str) = "n") := by decide +kernel
theorem ne_new_kind_crowds : ¬ (("new_kind" : Str) = "crowds") := by decide +kernel
theorem ne_new_kind_rolls : ¬ (("new_kind" : Str) = "rolls") := by decide +kernel
theorem ne_new_kind_kinds : ¬ (("new_kind" : Str) = "kinds") := by decide +kernel
theorem ne_new_kind_groups : ¬ (("new_kind" : Str) = "groups") := by decide +kernel
theorem ne_many_n : ¬ (("many" : Str) = "n") := by decide +kernel
theorem ne_many_crowds : ¬ (("many" : Str) = "crowds") := by decide +kernel
theorem ne_many_rolls : ¬ (("many" : Str) = "rolls") := by decide +kernel
theorem ne_many_kinds : ¬ (("many" : Str) = "kinds") := by decide +kernel
theorem ne_many_groups : ¬ (("many" : Str) = "groups") := by decide +kernel
theorem ne_crowd_at_n : ¬ (("crowd_at" : Str) = "n") := by decide +kernel
theorem ne_crowd_at_crowds : ¬ (("crowd_at" : Str) = "crowds") := by decide +kernel
theorem ne_crowd_at_rolls : ¬ (("crowd_at" : Str) = "rolls") := by decide +kernel
theorem ne_crowd_at_kinds : ¬ (("crowd_at" : Str) = "kinds") := by decide +kernel
theorem ne_crowd_at_groups : ¬ (("crowd_at" : Str) = "groups") := by decide +kernel
theorem ne_between_n : ¬ (("between" : Str) = "n") := by decide +kernel
theorem ne_between_crowds : ¬ (("between" : Str) = "crowds") := by decide +kernel
theorem ne_between_rolls : ¬ (("between" : Str) = "rolls") := by decide +kernel
theorem ne_between_kinds : ¬ (("between" : Str) = "kinds") := by decide +kernel
theorem ne_between_groups : ¬ (("between" : Str) = "groups") := by decide +kernel

def kfs (n : Int) (lc lr dk dg : Addr) : List (Str × V) := putF "groups" (.ref dg) (putF "kinds" (.ref dk) (putF "rolls" (.ref lr) (putF "crowds" (.ref lc) (putF "n" (.int n) []))))
theorem kfs_n (n : Int) (lc lr dk dg : Addr) : (kfs n lc lr dk dg).lookup ("n" : Str) = some (V.int n) := by
  unfold kfs
  rw [lookup_putF, if_neg ne_n_groups, lookup_putF, if_neg ne_n_kinds, lookup_putF, if_neg ne_n_rolls, lookup_putF, if_neg ne_n_crowds, lookup_putF, if_pos rfl]
theorem kfs_crowds (n : Int) (lc lr dk dg : Addr) : (kfs n lc lr dk dg).lookup ("crowds" : Str) = some (V.ref lc) := by
  unfold kfs
  rw [lookup_putF, if_neg ne_crowds_groups, lookup_putF, if_neg ne_crowds_kinds, lookup_putF, if_neg ne_crowds_rolls, lookup_putF, if_pos rfl]
theorem kfs_rolls (n : Int) (lc lr dk dg : Addr) : (kfs n lc lr dk dg).lookup ("rolls" : Str) = some (V.ref lr) := by
  unfold kfs
  rw [lookup_putF, if_neg ne_rolls_groups, lookup_putF, if_neg ne_rolls_kinds, lookup_putF, if_pos rfl]
theorem kfs_kinds (n : Int) (lc lr dk dg : Addr) : (kfs n lc lr dk dg).lookup ("kinds" : Str) = some (V.ref dk) := by
  unfold kfs
  rw [lookup_putF, if_neg ne_kinds_groups, lookup_putF, if_pos rfl]
theorem kfs_groups (n : Int) (lc lr dk dg : Addr) : (kfs n lc lr dk dg).lookup ("groups" : Str) = some (V.ref dg) := by
  unfold kfs
  rw [lookup_putF, if_pos rfl]
theorem kfs_told (n : Int) (lc lr dk dg : Addr) : (kfs n lc lr dk dg).lookup ("told" : Str) = none := by
  unfold kfs
  rw [lookup_putF, if_neg ne_told_groups, lookup_putF, if_neg ne_told_kinds, lookup_putF, if_neg ne_told_rolls, lookup_putF, if_neg ne_told_crowds, lookup_putF, if_neg ne_told_n]
  rfl
theorem kfs_kind_of (n : Int) (lc lr dk dg : Addr) : (kfs n lc lr dk dg).lookup ("kind_of" : Str) = none := by
  unfold kfs
  rw [lookup_putF, if_neg ne_kind_of_groups, lookup_putF, if_neg ne_kind_of_kinds, lookup_putF, if_neg ne_kind_of_rolls, lookup_putF, if_neg ne_kind_of_crowds, lookup_putF, if_neg ne_kind_of_n]
  rfl
theorem kfs_new_kind (n : Int) (lc lr dk dg : Addr) : (kfs n lc lr dk dg).lookup ("new_kind" : Str) = none := by
  unfold kfs
  rw [lookup_putF, if_neg ne_new_kind_groups, lookup_putF, if_neg ne_new_kind_kinds, lookup_putF, if_neg ne_new_kind_rolls, lookup_putF, if_neg ne_new_kind_crowds, lookup_putF, if_neg ne_new_kind_n]
  rfl
theorem kfs_many (n : Int) (lc lr dk dg : Addr) : (kfs n lc lr dk dg).lookup ("many" : Str) = none := by
  unfold kfs
  rw [lookup_putF, if_neg ne_many_groups, lookup_putF, if_neg ne_many_kinds, lookup_putF, if_neg ne_many_rolls, lookup_putF, if_neg ne_many_crowds, lookup_putF, if_neg ne_many_n]
  rfl
theorem kfs_crowd_at (n : Int) (lc lr dk dg : Addr) : (kfs n lc lr dk dg).lookup ("crowd_at" : Str) = none := by
  unfold kfs
  rw [lookup_putF, if_neg ne_crowd_at_groups, lookup_putF, if_neg ne_crowd_at_kinds, lookup_putF, if_neg ne_crowd_at_rolls, lookup_putF, if_neg ne_crowd_at_crowds, lookup_putF, if_neg ne_crowd_at_n]
  rfl
theorem kfs_between (n : Int) (lc lr dk dg : Addr) : (kfs n lc lr dk dg).lookup ("between" : Str) = none := by
  unfold kfs
  rw [lookup_putF, if_neg ne_between_groups, lookup_putF, if_neg ne_between_kinds, lookup_putF, if_neg ne_between_rolls, lookup_putF, if_neg ne_between_crowds, lookup_putF, if_neg ne_between_n]
  rfl

def dd {α : Type} [DecidableEq α] (xs : List α) : List α := xs.foldl (fun a x => if x ∈ a then a else a ++ [x]) []
theorem dd_snoc {α : Type} [DecidableEq α] (xs : List α) (x : α) : dd (xs ++ [x]) = if x ∈ dd xs then dd xs else dd xs ++ [x] := by unfold dd; rw [List.foldl_append]; rfl
theorem ddA {α : Type} [DecidableEq α] : ∀ (xs a : List α), (∀ x, x ∈ xs.foldl (fun a x => if x ∈ a then a else a ++ [x]) a ↔ x ∈ a ∨ x ∈ xs) ∧ (a.Nodup → (xs.foldl (fun a x => if x ∈ a then a else a ++ [x]) a).Nodup)
  | [], a => ⟨fun x => by simp, fun h => h⟩
  | y :: xs, a => by
    rw [List.foldl_cons]
    by_cases hy : y ∈ a
    · rw [if_pos hy]
      obtain ⟨h1, h2⟩ := ddA xs a
      refine ⟨fun x => ?_, h2⟩
      rw [h1, List.mem_cons]
      constructor
      · rintro (z | z)
        · exact .inl z
        · exact .inr (.inr z)
      · rintro (z | z | z)
        · exact .inl z
        · exact .inl (by rw [z]; exact hy)
        · exact .inr z
    · rw [if_neg hy]
      obtain ⟨h1, h2⟩ := ddA xs (a ++ [y])
      refine ⟨fun x => ?_, fun h => h2 ?_⟩
      · rw [h1, List.mem_cons, List.mem_append, List.mem_singleton, or_assoc]
      · rw [List.nodup_append]
        refine ⟨h, by simp, fun u hu v hv e => ?_⟩
        rw [List.mem_singleton.mp hv] at e
        exact hy (by rw [← e]; exact hu)
theorem dd_mem {α : Type} [DecidableEq α] {xs : List α} {x : α} : x ∈ dd xs ↔ x ∈ xs := by
  have := (ddA xs []).1 x
  unfold dd
  rw [this]
  simp
theorem dd_nodup {α : Type} [DecidableEq α] (xs : List α) : (dd xs).Nodup := (ddA xs []).2 List.nodup_nil
def grp {α : Type} [DecidableEq α] (xs : List α) (x : α) : List Int := ((List.range xs.length).filter fun j => decide (xs[j]? = some x)).map fun (j : Nat) => (j : Int)
theorem grp_snoc {α : Type} [DecidableEq α] (xs : List α) (y x : α) : grp (xs ++ [y]) x = if y = x then grp xs x ++ [(xs.length : Int)] else grp xs x := by
  unfold grp
  rw [List.length_append, List.length_singleton, List.range_succ, List.filter_append, List.map_append]
  have e1 : (List.range xs.length).filter (fun j => decide ((xs ++ [y])[j]? = some x)) = (List.range xs.length).filter fun j => decide (xs[j]? = some x) := List.filter_congr fun j hj => by rw [List.getElem?_append_left (List.mem_range.mp hj)]
  have e2 : (xs ++ [y])[xs.length]? = some y := by simp
  rw [e1]
  by_cases h : y = x
  · rw [if_pos h, List.filter_cons_of_pos (by rw [e2, h]; exact decide_eq_true rfl)]
    rfl
  · rw [if_neg h, List.filter_cons_of_neg (by rw [e2, decide_eq_false fun z => h (Option.some.inj z)]; exact Bool.false_ne_true)]
    simp
theorem grp_mem {α : Type} [DecidableEq α] {xs : List α} {x : α} {j : Int} : j ∈ grp xs x ↔ ∃ i : Nat, j = (i : Int) ∧ xs[i]? = some x := by
  unfold grp
  rw [List.mem_map]
  constructor
  · rintro ⟨i, hi, rfl⟩
    exact ⟨i, rfl, of_decide_eq_true (List.mem_filter.mp hi).2⟩
  · rintro ⟨i, rfl, h⟩
    exact ⟨i, List.mem_filter.mpr ⟨List.mem_range.mpr (List.getElem?_eq_some_iff.mp h).1, decide_eq_true h⟩, rfl⟩
theorem grp_none {α : Type} [DecidableEq α] {xs : List α} {x : α} (h : x ∉ xs) : grp xs x = [] := by
  cases e : grp xs x with
  | nil => rfl
  | cons j l =>
    obtain ⟨i, _, hi⟩ := grp_mem.mp (by rw [e]; exact List.mem_cons_self : j ∈ grp xs x)
    exact absurd (List.mem_of_getElem? hi) h
noncomputable def lf (n : Int) (c : List Int) : List Int := open Classical in if h : ∃ k, Least n c k then Classical.choose h else []
theorem lf_eq {n : Int} {c k : List Int} (h : Least n c k) : lf n c = k := by
  unfold lf
  rw [dif_pos ⟨k, h⟩]
  exact (Classical.choose_spec (⟨k, h⟩ : ∃ k, Least n c k)).uniq h
noncomputable def fmO (n : Int) (cr : List (List Int)) : List (List Int) := dd (cr.map (lf n))
noncomputable def rlO (n : Int) (cr : List (List Int)) : List (List Int) := (fmO n cr).map fun f => grp (cr.map (lf n)) f
def keyO (n : Int) (f : List Int) : STab.NK := ((f.length : Int), (cnts n f).map Sum.inl)
def grF (n : Int) (fm : List (List Int)) : List (STab.NK × List Int) := (dd (fm.map (keyO n))).map fun k => (k, grp (fm.map (keyO n)) k)
open Classical in
noncomputable def gAdd (gr : List (STab.NK × List Int)) (k : STab.NK) (i : Int) : List (STab.NK × List Int) := if k ∈ gr.map (·.1) then gr.map (fun q => if q.1 = k then (q.1, q.2 ++ [i]) else q) else gr ++ [(k, [i])]
theorem grF_keys (n : Int) (fm : List (List Int)) : (grF n fm).map (·.1) = dd (fm.map (keyO n)) := by
  unfold grF
  rw [List.map_map]
  exact List.map_id _
theorem grF_snoc (n : Int) (fm : List (List Int)) (f : List Int) : grF n (fm ++ [f]) = gAdd (grF n fm) (keyO n f) (fm.length : Int) := by
  unfold gAdd
  rw [grF_keys]
  unfold grF
  rw [List.map_append, List.map_singleton, dd_snoc]
  by_cases h : keyO n f ∈ dd (fm.map (keyO n))
  · rw [if_pos h, if_pos h, List.map_map]
    refine List.map_congr_left fun k hk => ?_
    show (k, grp (fm.map (keyO n) ++ [keyO n f]) k) = if k = keyO n f then (k, grp (fm.map (keyO n)) k ++ [(fm.length : Int)]) else (k, grp (fm.map (keyO n)) k)
    rw [grp_snoc, List.length_map]
    by_cases e : k = keyO n f
    · rw [if_pos e, if_pos e.symm]
    · rw [if_neg e, if_neg (fun z => e z.symm)]
  · rw [if_neg h, if_neg h, List.map_append, List.map_singleton, grp_snoc, if_pos rfl, List.length_map, grp_none (fun z => h (dd_mem.mpr z))]
    congr 1
    refine List.map_congr_left fun k hk => ?_
    rw [grp_snoc, if_neg (fun z => h (by rw [z]; exact hk))]
theorem fmO_snoc (n : Int) (cr : List (List Int)) (c : List Int) : fmO n (cr ++ [c]) = if lf n c ∈ fmO n cr then fmO n cr else fmO n cr ++ [lf n c] := by
  unfold fmO
  rw [List.map_append, List.map_singleton, dd_snoc]
  by_cases h : lf n c ∈ dd (cr.map (lf n))
  · rw [if_pos h, if_pos h]
  · rw [if_neg h, if_neg h]
noncomputable def fmN (n : Int) (cr : List (List Int)) (f : List Int) : List (List Int) := if f ∈ fmO n cr then fmO n cr else fmO n cr ++ [f]
noncomputable def rlN (n : Int) (cr : List (List Int)) (f : List Int) : List (List Int) := if f ∈ fmO n cr then rlO n cr else rlO n cr ++ [[]]
theorem rlO_snoc (n : Int) (cr : List (List Int)) (c : List Int) {k : Nat} (hk : (fmN n cr (lf n c))[k]? = some (lf n c)) : ∃ xs, (rlN n cr (lf n c))[k]? = some xs ∧ rlO n (cr ++ [c]) = (rlN n cr (lf n c)).set k (xs ++ [(cr.length : Int)]) := by
  have e0 : rlN n cr (lf n c) = (fmN n cr (lf n c)).map fun f => grp (cr.map (lf n)) f := by
    unfold rlN fmN rlO
    split
    · rfl
    · next h => rw [List.map_append, List.map_singleton, grp_none (fun z => h (dd_mem.mpr z))]
  have hl : k < (fmN n cr (lf n c)).length := (List.getElem?_eq_some_iff.mp hk).1
  have nd : (fmN n cr (lf n c)).Nodup := by
    have := dd_nodup ((cr ++ [c]).map (lf n))
    have e := fmO_snoc n cr c
    unfold fmO at e
    rw [e] at this
    exact this
  refine ⟨grp (cr.map (lf n)) (lf n c), by rw [e0, List.getElem?_map, hk]; rfl, ?_⟩
  unfold rlO
  rw [fmO_snoc, e0]
  refine List.ext_getElem? fun j => ?_
  show ((fmN n cr (lf n c)).map _)[j]? = _
  rw [List.getElem?_map, List.getElem?_set, List.length_map, List.getElem?_map, List.map_append, List.map_singleton]
  by_cases e : k = j
  · subst e
    rw [if_pos rfl, if_pos hl, hk]
    show some (grp (cr.map (lf n) ++ [lf n c]) (lf n c)) = _
    rw [grp_snoc, if_pos rfl, List.length_map]
  · rw [if_neg e]
    cases hj : (fmN n cr (lf n c))[j]? with
    | none => rfl
    | some g =>
      show some (grp (cr.map (lf n) ++ [lf n c]) g) = some (grp (cr.map (lf n)) g)
      rw [grp_snoc, if_neg fun z => e ?_]
      rw [← z] at hj
      exact (List.getElem?_inj hl nd).mp (hk.trans hj.symm)
def KeysT (H : Hp) (kvs : KX) : Prop := ∀ q ∈ kvs, H q.2.1 = some (.tup (q.1.map kV))
theorem KeysT.tk {H H' : Hp} {kvs : KX} (t : TupKeep H H') (r : KeysT H kvs) : KeysT H' kvs := fun q hq => t _ _ (r q hq)
theorem KeysT.ok {K : PySem.W.Frag} {H : Hp} {kvs : KX} (r : KeysT H kvs) : KeysOk K H kvs := fun q hq => SqT.of (r q hq)
def kvF (fm : List (List Int)) : List (List Key × V) := (List.range fm.length).map fun i => ((fm.getD i []).map Sum.inl, V.int (i : Int))
theorem atX_two (kvs : KX) (k : List Key) : atX kvs k = ((kvs.map fun q => (q.1, q.2.2)).find? fun q => decide (q.1 = k)).map (·.2) := by
  unfold atX
  induction kvs with
  | nil => rfl
  | cons q kvs ih =>
    rw [List.map_cons]
    by_cases e : q.1 = k
    · rw [List.find?_cons_of_pos (by exact decide_eq_true e), List.find?_cons_of_pos (by exact decide_eq_true e)]
      rfl
    · rw [List.find?_cons_of_neg (by simpa using e), List.find?_cons_of_neg (by simpa using e)]
      exact ih
theorem inl_inj {a b : List Int} (h : a.map (Sum.inl : Int → Key) = b.map Sum.inl) : a = b := by
  induction a generalizing b with
  | nil => cases b with
    | nil => rfl
    | cons _ _ => cases h
  | cons x a ih => cases b with
    | nil => cases h
    | cons y b =>
      rw [List.map_cons, List.map_cons] at h
      obtain ⟨h1, h2⟩ := List.cons.inj h
      rw [Sum.inl.inj h1, ih h2]
theorem atX_at {kvs : KX} {fm : List (List Int)} (e : (kvs.map fun q => (q.1, q.2.2)) = kvF fm) (nd : fm.Nodup) {k : Nat} {f : List Int} (h : fm[k]? = some f) : atX kvs (f.map Sum.inl) = some (.int (k : Int)) := by
  have hk := (List.getElem?_eq_some_iff.mp h).1
  have gk : ∀ i, i < fm.length → fm[i]? = some (fm.getD i []) := fun i hi => by rw [List.getD_eq_getElem?_getD, List.getElem?_eq_getElem hi]; rfl
  have ef : f = fm.getD k [] := Option.some.inj (h.symm.trans (gk k hk))
  rw [atX_two, e, ef]
  unfold kvF
  refine find_at (fun i => (fm.getD i []).map (Sum.inl : Int → Key)) (fun i j hi hj z => ?_) hk
  have z := inl_inj z
  refine (List.getElem?_inj hi nd).mp ?_
  rw [gk i hi, gk j hj, z]
theorem atX_no {kvs : KX} {fm : List (List Int)} (e : (kvs.map fun q => (q.1, q.2.2)) = kvF fm) {f : List Int} (h : f ∉ fm) : atX kvs (f.map Sum.inl) = none := by
  rw [atX_two, e]
  cases z : (kvF fm).find? (fun q => decide (q.1 = f.map Sum.inl)) with
  | none => rfl
  | some q =>
    have h1 := List.find?_some z
    have h1 : q.1 = f.map Sum.inl := of_decide_eq_true h1
    have h2 := List.mem_of_find?_eq_some z
    unfold kvF at h2
    obtain ⟨i, hi, ei⟩ := List.mem_map.mp h2
    have hi := List.mem_range.mp hi
    rw [← ei] at h1
    have := inl_inj h1
    refine absurd ?_ h
    rw [← this, List.getD_eq_getElem?_getD, List.getElem?_eq_getElem hi]
    exact List.getElem_mem hi
theorem kvF_snoc (fm : List (List Int)) (f : List Int) : kvF (fm ++ [f]) = kvF fm ++ [(f.map Sum.inl, V.int (fm.length : Int))] := by
  unfold kvF
  rw [List.length_append, List.length_singleton, List.range_succ, List.map_append, List.map_singleton]
  have e1 : (fm ++ [f]).getD fm.length [] = f := by simp [List.getD]
  rw [e1]
  congr 1
  refine List.map_congr_left fun i hi => ?_
  have : (fm ++ [f]).getD i [] = fm.getD i [] := by
    rw [List.getD_eq_getElem?_getD, List.getElem?_append_left (List.mem_range.mp hi), ← List.getD_eq_getElem?_getD]
  rw [this]
structure KpA (wd : World) (K : PySem.W.Frag) (H : Hp) (p : Addr) (n : Int) (cr fm rl : List (List Int)) (gr : List (STab.NK × List Int)) (lc lr dk dg : Addr) (ra ga : List Addr) : Prop where
  ins : Ins K "Keeper" H p (kfs n lc lr dk dg)
  c1 : ∃ wc, H lc = some (.lst wc) ∧ Paired (TupR H) wc cr
  r1 : H lr = some (.lst (ra.map V.ref))
  r2 : ∀ (i : Nat) (a : Addr), ra[i]? = some a → ∃ xs : List Int, rl[i]? = some xs ∧ H a = some (.lst (xs.map V.int))
  rlen : ra.length = rl.length
  k1 : ∃ kvs, H dk = some (dX wd dk kvs) ∧ KeysT H kvs ∧ (kvs.map fun q => (q.1, q.2.2)) = kvF fm
  g1 : ∃ gvs, H dg = some (dN wd dg gvs) ∧ KeysN H gvs ∧ gvs.map (·.1) = gr.map (·.1) ∧ gvs.map (·.2.2) = ga.map V.ref
  g2 : ∀ (i : Nat) (a : Addr), ga[i]? = some a → ∃ q : STab.NK × List Int, gr[i]? = some q ∧ H a = some (.lst (q.2.map V.int))
  glen : ga.length = gr.length
  gnd : (gr.map (·.1)).Nodup
  fnd : fm.Nodup
  kg : dk ≠ dg
  nd : (lc :: lr :: (ra ++ ga)).Nodup
abbrev ftA (lc lr dk dg : Addr) (ra ga : List Addr) : List Addr := lc :: lr :: dk :: dg :: (ra ++ ga)
def Outs (ft : List Addr) (H H' : Hp) : Prop := ∀ b o, b ∉ ft → H b = some o → H' b = some o
theorem Outs.trans {ft : List Addr} {H1 H2 H3 : Hp} (a : Outs ft H1 H2) (b : Outs ft H2 H3) : Outs ft H1 H3 := fun x o n e => b x o n (a x o n e)
theorem Outs.same {ft : List Addr} {H H' : Hp} (s : Same H H') : Outs ft H H' := fun b o _ e => s b o e
theorem Outs.save {ft : List Addr} {a : Addr} {H H' : Hp} (h : a ∈ ft) (s : Save a H H') : Outs ft H H' := fun b o n e => s b o (fun z => n (by rw [z]; exact h)) e
theorem KpA.keep {wd : World} {K : PySem.W.Frag} {H H' : Hp} {p : Addr} {n : Int} {cr fm rl : List (List Int)} {gr : List (STab.NK × List Int)} {lc lr dk dg : Addr} {ra ga : List Addr} (k : KpA wd K H p n cr fm rl gr lc lr dk dg ra ga)
    (own : ∀ b ∈ p :: ftA lc lr dk dg ra ga, ∀ o, H b = some o → H' b = some o) (tk : TupKeep H H') : KpA wd K H' p n cr fm rl gr lc lr dk dg ra ga := by
  have o1 : ∀ b ∈ ftA lc lr dk dg ra ga, ∀ o, H b = some o → H' b = some o := fun b hb => own b (List.mem_cons_of_mem _ hb)
  refine ⟨?_, ?_, o1 lr (by simp) _ k.r1, fun i a h => ?_, k.rlen, ?_, ?_, fun i a h => ?_, k.glen, k.gnd, k.fnd, k.kg, k.nd⟩
  · obtain ⟨C, dx, ic, e⟩ := k.ins
    exact ⟨C, dx, ic, own p (List.mem_cons_self ..) _ e⟩
  · obtain ⟨wc, e, pr⟩ := k.c1
    exact ⟨wc, o1 lc (by simp) _ e, prd_imp (fun _ _ r => r.mono tk) pr⟩
  · obtain ⟨xs, e1, e2⟩ := k.r2 i a h
    exact ⟨xs, e1, o1 a (by have := List.mem_of_getElem? h; simp [this]) _ e2⟩
  · obtain ⟨kvs, e, ks, em⟩ := k.k1
    exact ⟨kvs, o1 dk (by simp) _ e, ks.tk tk, em⟩
  · obtain ⟨gvs, e, ks, e1, e2⟩ := k.g1
    exact ⟨gvs, o1 dg (by simp) _ e, ks.tk tk, e1, e2⟩
  · obtain ⟨q, e1, e2⟩ := k.g2 i a h
    exact ⟨q, e1, o1 a (by have := List.mem_of_getElem? h; simp [this]) _ e2⟩
theorem KpA.same {wd : World} {K : PySem.W.Frag} {H H' : Hp} {p : Addr} {n : Int} {cr fm rl : List (List Int)} {gr : List (STab.NK × List Int)} {lc lr dk dg : Addr} {ra ga : List Addr} (k : KpA wd K H p n cr fm rl gr lc lr dk dg ra ga) (s : Same H H') : KpA wd K H' p n cr fm rl gr lc lr dk dg ra ga := k.keep (fun b _ o e => s b o e) s.tk
theorem units2 {k : Nat} {A : Around} (hr : Room k A) : A.units + 2 < cLine := by have := hr.units; omega
theorem sv_free {a b : Addr} {H H' : Hp} (s : Save a H H') (h : H' b = none) (n : b ≠ a) : H b = none := by
  cases e : H b with
  | none => rfl
  | some o => rw [s b o n e] at h; cases h
theorem inl_map (f : List Int) : (f.map (Sum.inl : Int → Key)).map kV = f.map V.int := by rw [List.map_map]; rfl
theorem ins_ne {K : PySem.W.Frag} {c : Str} {H : Hp} {p b : Addr} {fs : List (Str × V)} {o : HO} (i : Ins K c H p fs) (h : H b = some o) (no : ∀ C dx, o ≠ .ins C dx fs) : p ≠ b := fun e => by
  obtain ⟨C, dx, _, z⟩ := i
  rw [e, h] at z
  exact no C dx (Option.some.inj z)
structure Apart (p lc lr dk dg : Addr) (ra ga : List Addr) : Prop where
  pc : p ≠ lc
  pr : p ≠ lr
  pk : p ≠ dk
  pg : p ≠ dg
  pl : ∀ a ∈ ra ++ ga, p ≠ a
  cr : lc ≠ lr
  ck : lc ≠ dk
  cg : lc ≠ dg
  cl : ∀ a ∈ ra ++ ga, lc ≠ a
  rk : lr ≠ dk
  rg : lr ≠ dg
  rl : ∀ a ∈ ra ++ ga, lr ≠ a
  kg : dk ≠ dg
  kl : ∀ a ∈ ra ++ ga, dk ≠ a
  gl : ∀ a ∈ ra ++ ga, dg ≠ a
theorem KpA.lst {wd : World} {K : PySem.W.Frag} {H : Hp} {p : Addr} {n : Int} {cr fm rl : List (List Int)} {gr : List (STab.NK × List Int)} {lc lr dk dg : Addr} {ra ga : List Addr} (k : KpA wd K H p n cr fm rl gr lc lr dk dg ra ga) : ∀ a ∈ ra ++ ga, ∃ xs : List Int, H a = some (.lst (xs.map V.int)) := fun a ha => by
  rcases List.mem_append.mp ha with z | z
  · obtain ⟨i, hi, e⟩ := List.getElem_of_mem z
    obtain ⟨xs, _, h⟩ := k.r2 i a (by rw [List.getElem?_eq_getElem hi, e])
    exact ⟨xs, h⟩
  · obtain ⟨i, hi, e⟩ := List.getElem_of_mem z
    obtain ⟨q, _, h⟩ := k.g2 i a (by rw [List.getElem?_eq_getElem hi, e])
    exact ⟨q.2, h⟩
theorem KpA.apart {wd : World} {K : PySem.W.Frag} {H : Hp} {p : Addr} {n : Int} {cr fm rl : List (List Int)} {gr : List (STab.NK × List Int)} {lc lr dk dg : Addr} {ra ga : List Addr} (k : KpA wd K H p n cr fm rl gr lc lr dk dg ra ga) : Apart p lc lr dk dg ra ga := by
  obtain ⟨wc, hc, _⟩ := k.c1
  obtain ⟨kvs, hk, _⟩ := k.k1
  obtain ⟨gvs, hg, _⟩ := k.g1
  have nd := List.nodup_cons.mp k.nd
  have nd2 := List.nodup_cons.mp nd.2
  have ll := k.lst
  have hp : ∀ {b : Addr} {o : HO}, H b = some o → (∀ C dx fs, o ≠ .ins C dx fs) → p ≠ b := fun h no => ins_ne k.ins h fun C dx => no C dx _
  refine ⟨hp hc (fun _ _ _ z => nomatch z), hp k.r1 (fun _ _ _ z => nomatch z), hp hk (fun _ _ _ z => nomatch z), hp hg (fun _ _ _ z => nomatch z), fun a ha => ?_, fun z => nd.1 (by rw [z]; exact List.mem_cons_self), ne_of hc hk (fun z => nomatch z), ne_of hc hg (fun z => nomatch z), fun a ha z => nd.1 (List.mem_cons_of_mem _ (by rw [z]; exact ha)), ne_of k.r1 hk (fun z => nomatch z), ne_of k.r1 hg (fun z => nomatch z), fun a ha z => nd2.1 (by rw [z]; exact ha), k.kg, fun a ha => ?_, fun a ha => ?_⟩
  · obtain ⟨xs, h⟩ := ll a ha
    exact hp h (fun _ _ _ z => nomatch z)
  · obtain ⟨xs, h⟩ := ll a ha
    exact ne_of hk h (fun z => nomatch z)
  · obtain ⟨xs, h⟩ := ll a ha
    exact ne_of hg h (fun z => nomatch z)
theorem atN_at {gvs : KN} {gr : List (STab.NK × List Int)} {ga : List Addr} (e1 : gvs.map (·.1) = gr.map (·.1)) (e2 : gvs.map (·.2.2) = ga.map V.ref) {k : STab.NK} {u : V} (h : atN gvs k = some u) : ∃ (i : Nat) (a : Addr) (q : STab.NK × List Int), ga[i]? = some a ∧ gr[i]? = some q ∧ q.1 = k ∧ u = .ref a := by
  unfold atN at h
  cases z : gvs.find? (fun q => decide (q.1 = k)) with
  | none => rw [z] at h; cases h
  | some q =>
    rw [z] at h
    have hu : q.2.2 = u := Option.some.inj h
    have h1 := List.find?_some z
    have h1 : q.1 = k := of_decide_eq_true h1
    obtain ⟨i, hi, ei⟩ := List.getElem_of_mem (List.mem_of_find?_eq_some z)
    have g1 := congrArg (fun l => l[i]?) e1
    have g2 := congrArg (fun l => l[i]?) e2
    simp only [List.getElem?_map, List.getElem?_eq_getElem hi, ei, Option.map_some] at g1 g2
    cases c1 : gr[i]? with
    | none => rw [c1] at g1; cases g1
    | some r =>
      cases c2 : ga[i]? with
      | none => rw [c2] at g2; cases g2
      | some a =>
        rw [c1] at g1
        rw [c2] at g2
        have g1 : q.1 = r.1 := Option.some.inj g1
        have g2 : q.2.2 = .ref a := Option.some.inj g2
        exact ⟨i, a, r, c2, c1, by rw [← g1, h1], by rw [← hu, g2]⟩
theorem atN_no {gvs : KN} {gr : List (STab.NK × List Int)} (e1 : gvs.map (·.1) = gr.map (·.1)) {k : STab.NK} (h : atN gvs k = none) : k ∉ gr.map (·.1) := fun hm => by
  rw [← e1] at hm
  obtain ⟨q, hq, e⟩ := List.mem_map.mp hm
  unfold atN at h
  have hs : (gvs.find? fun q => decide (q.1 = k)).isSome = true := by
    rw [List.find?_isSome]
    exact ⟨q, hq, decide_eq_true e⟩
  obtain ⟨r, hr⟩ := Option.isSome_iff_exists.mp hs
  rw [hr] at h
  cases h
theorem map_at {q : STab.NK × List Int} {gr : List (STab.NK × List Int)} (nd : (gr.map (·.1)).Nodup) {i : Nat} (hi : gr[i]? = some q) (x : Int) : gAdd gr q.1 x = gr.set i (q.1, q.2 ++ [x]) := by
  unfold gAdd
  have hm : q.1 ∈ gr.map (·.1) := List.mem_map_of_mem (List.mem_of_getElem? hi)
  rw [if_pos hm]
  have hl := (List.getElem?_eq_some_iff.mp hi).1
  refine List.ext_getElem? fun j => ?_
  rw [List.getElem?_map, List.getElem?_set]
  by_cases e : i = j
  · subst e
    rw [if_pos rfl, if_pos hl, hi]
    show some (if q.1 = q.1 then (q.1, q.2 ++ [x]) else q) = _
    rw [if_pos rfl]
  · rw [if_neg e]
    cases hj : gr[j]? with
    | none => rfl
    | some r =>
      show some (if r.1 = q.1 then (r.1, r.2 ++ [x]) else r) = some r
      rw [if_neg fun z => e ?_]
      have i1 : (gr.map (·.1))[i]? = some q.1 := by rw [List.getElem?_map, hi]; rfl
      have i2 : (gr.map (·.1))[j]? = some q.1 := by rw [List.getElem?_map, hj, ← z]; rfl
      exact (List.getElem?_inj (by rw [List.length_map]; exact hl) nd).mp (i1.trans i2.symm)

theorem crowd_self {n : Int} {cs : List Int} (h : Tones n cs) : cw n (fun y => decide (y ∈ cs.map (· % n))) = cs := by
  have e : cs.map (· % n) = cs := by
    have : cs.map (· % n) = cs.map id := List.map_congr_left fun x hx => Int.emod_eq_of_lt (h.2 x hx).1 (h.2 x hx).2
    rw [this, List.map_id]
  rw [e]
  exact (cw_of h.1 h.2).symm
theorem wys_some {n : Int} (hn : 0 < n) {cs ds k : List Int} (h : Tones n cs) (h' : Tones n ds) (a : Least n cs k) (b : Least n ds k) : ∃ c, (wys n cs ds)[0]? = some c := by
  obtain ⟨c, _, e1⟩ := List.mem_map.mp a.mem
  obtain ⟨d, _, e2⟩ := List.mem_map.mp b.mem
  have e1 : imgC n c cs = k := e1
  have e2 : imgC n d ds = k := e2
  have hp : 0 < (wys n cs ds).length := by
    refine List.length_pos_of_mem (a := thn n c (bck n d)) (wys_mem.mpr ⟨thn_mem hn _ _, ?_⟩)
    rw [img_thn hn, e1, ← e2]
    exact img_bck hn d h'
  exact ⟨_, List.getElem?_eq_getElem hp⟩
theorem dd_len {α : Type} [DecidableEq α] (xs : List α) : (dd xs).length ≤ xs.length := by
  have gen : ∀ (xs a : List α), (xs.foldl (fun a x => if x ∈ a then a else a ++ [x]) a).length ≤ a.length + xs.length := by
    intro xs
    induction xs with
    | nil => intro a; exact Nat.le_refl _
    | cons y xs ih =>
      intro a
      rw [List.foldl_cons, List.length_cons]
      split
      · have := ih a
        omega
      · have := ih (a ++ [y])
        rw [List.length_append, List.length_singleton] at this
        omega
  have := gen xs []
  rwa [List.length_nil, Nat.zero_add] at this
theorem grp_len {α : Type} [DecidableEq α] (xs : List α) (x : α) : (grp xs x).length ≤ xs.length := by
  unfold grp
  rw [List.length_map]
  refine Nat.le_trans (List.length_filter_le _ _) ?_
  rw [List.length_range]
  exact Nat.le_refl _
theorem fmO_len (n : Int) (cr : List (List Int)) : (fmO n cr).length ≤ cr.length := by
  have := dd_len (cr.map (lf n))
  rwa [List.length_map] at this
theorem grF_len (n : Int) (fm : List (List Int)) : (grF n fm).length ≤ fm.length ∧ ∀ q ∈ grF n fm, q.2.length ≤ fm.length := by
  constructor
  · unfold grF
    rw [List.length_map]
    have := dd_len (fm.map (keyO n))
    rwa [List.length_map] at this
  · intro q hq
    unfold grF at hq
    obtain ⟨k, _, rfl⟩ := List.mem_map.mp hq
    have := grp_len (fm.map (keyO n)) k
    rwa [List.length_map] at this
theorem fmN_is (n : Int) (cr : List (List Int)) (c : List Int) : fmN n cr (lf n c) = fmO n (cr ++ [c]) := by
  rw [fmO_snoc]
  rfl
noncomputable abbrev KpT (wd : World) (K : PySem.W.Frag) (H : Hp) (p : Addr) (n : Int) (cr : List (List Int)) (lc lr dk dg : Addr) (ra ga : List Addr) : Prop := KpA wd K H p n cr (fmO n cr) (rlO n cr) (grF n (fmO n cr)) lc lr dk dg ra ga

theorem chg_pair {H : Hp} {ws : List V} {cs : List (Bool × Int)} (pr : Paired (ChgR H) ws cs) : Paired (PairOf StrR IntR H) ws (cs.map fun c => (kS c.1, c.2)) := by
  induction pr with
  | nil => exact .nil
  | cons r _ ih =>
    obtain ⟨p, rfl, h⟩ := r
    exact .cons ⟨p, _, _, rfl, h, rfl, rfl⟩ ih
theorem joinP {A g : Prop} (h1 : A → g) (h2 : A) : g := h1 h2

theorem wys_pos {n : Int} (hn : 0 < n) {cs ds k1 k2 : List Int} (h : Tones n cs) (h' : Tones n ds) (a : Least n cs k1) (b : Least n ds k2) : decide (k1 = k2) = decide (0 < (wys n cs ds).length) := by
  rw [decide_eq_decide]
  constructor
  · intro e
    obtain ⟨c, _, e1⟩ := List.mem_map.mp a.mem
    obtain ⟨d, _, e2⟩ := List.mem_map.mp b.mem
    have e1 : imgC n c cs = k1 := e1
    have e2 : imgC n d ds = k2 := e2
    refine List.length_pos_of_mem (a := thn n c (bck n d)) (wys_mem.mpr ⟨thn_mem hn _ _, ?_⟩)
    rw [img_thn hn, e1, e, ← e2]
    exact img_bck hn d h'
  · intro hp
    have := (wys_mem.mp (List.getElem_mem hp)).2
    rw [← this] at b
    exact a.uniq (Least.of_img hn h _ b)

def KOK (n : Int) (cr : List (List Int)) (ks : List Int) : Prop := ks.length = cr.length ∧ ∀ (i : Nat) (c : List Int), cr[i]? = some c → ∃ k : Nat, ks[i]? = some (k : Int) ∧ (fmO n cr)[k]? = some (lf n c)
theorem fmO_keep {n : Int} {cr : List (List Int)} (c : List Int) {k : Nat} {f : List Int} (h : (fmO n cr)[k]? = some f) : (fmO n (cr ++ [c]))[k]? = some f := by
  rw [fmO_snoc]
  split
  · exact h
  · rw [List.getElem?_append_left (List.getElem?_eq_some_iff.mp h).1]
    exact h
theorem KOK.snoc {n : Int} {cr : List (List Int)} {ks : List Int} (o : KOK n cr ks) {c : List Int} {k : Nat} (h : (fmO n (cr ++ [c]))[k]? = some (lf n c)) : KOK n (cr ++ [c]) (ks ++ [(k : Int)]) := by
  refine ⟨by rw [List.length_append, List.length_append, o.1]; rfl, fun i d hd => ?_⟩
  by_cases hi : i < cr.length
  · rw [List.getElem?_append_left hi] at hd
    obtain ⟨k', e1, e2⟩ := o.2 i d hd
    exact ⟨k', by rw [List.getElem?_append_left (by rw [o.1]; exact hi)]; exact e1, fmO_keep c e2⟩
  · rw [List.getElem?_append_right (by omega)] at hd
    have i0 : i - cr.length = 0 := by
      have := (List.getElem?_eq_some_iff.mp hd).1
      simp at this
      omega
    rw [i0] at hd
    cases hd
    refine ⟨k, ?_, h⟩
    rw [List.getElem?_append_right (by rw [o.1]; omega), o.1, i0]
    rfl
theorem fmO_nd (n : Int) (cr : List (List Int)) : (fmO n cr).Nodup := dd_nodup _
theorem fmO_len1 (n : Int) (cr : List (List Int)) (c : List Int) : (fmO n (cr ++ [c])).length ≤ (fmO n cr).length + 1 := by
  rw [fmO_snoc]
  split
  · omega
  · rw [List.length_append]; exact Nat.le_refl _
theorem KOK.max {n : Int} {cr : List (List Int)} {ks : List Int} (o : KOK n cr ks) {c : List Int} {k : Nat} (h : (fmO n (cr ++ [c]))[k]? = some (lf n c)) {m : Int} (hm : ∀ a ∈ (-1 : Int) :: ks, a ≤ m) : (k : Int) ≤ m + 1 := by
  have m1 := hm (-1) List.mem_cons_self
  have hk := (List.getElem?_eq_some_iff.mp h).1
  have := fmO_len1 n cr c
  by_cases k0 : k = 0
  · omega
  have hk1 : k - 1 < (fmO n cr).length := by omega
  have hmem : (fmO n cr)[k - 1] ∈ fmO n cr := List.getElem_mem hk1
  obtain ⟨d, hd, ed⟩ := List.mem_map.mp (dd_mem.mp hmem)
  obtain ⟨i, hi, ei⟩ := List.getElem_of_mem hd
  obtain ⟨k', e1, e2⟩ := o.2 i d (by rw [List.getElem?_eq_getElem hi, ei])
  rw [ed] at e2
  have := (List.getElem?_inj hk1 (fmO_nd n cr)).mp ((List.getElem?_eq_getElem hk1).trans e2.symm)
  have := hm (k' : Int) (List.mem_cons_of_mem _ (List.mem_of_getElem? e1))
  omega
theorem grp_first {α : Type} [DecidableEq α] {xs : List α} {x : α} {j : Nat} (h : (grp xs x)[0]? = some (j : Int)) : xs[j]? = some x ∧ ∀ i, i < j → xs[i]? ≠ some x := by
  obtain ⟨j', e, hj⟩ := grp_mem.mp (List.mem_of_getElem? h)
  have e : j' = j := by omega
  subst e
  refine ⟨hj, fun i hi e => ?_⟩
  unfold grp at h
  rw [List.getElem?_map] at h
  have hs : ((List.range xs.length).filter fun j => decide (xs[j]? = some x)).Pairwise (· < ·) := List.Pairwise.filter _ List.pairwise_lt_range
  have hm : i ∈ (List.range xs.length).filter fun j => decide (xs[j]? = some x) := List.mem_filter.mpr ⟨List.mem_range.mpr (List.getElem?_eq_some_iff.mp e).1, decide_eq_true e⟩
  cases ef : (List.range xs.length).filter fun j => decide (xs[j]? = some x) with
  | nil => rw [ef] at hm; cases hm
  | cons y l =>
    rw [ef] at h hm hs
    have : (y : Int) = (j' : Int) := Option.some.inj h
    rcases List.mem_cons.mp hm with z | z
    · omega
    · have := (List.pairwise_cons.mp hs).1 i z
      omega
theorem KOK.first {n : Int} {cr : List (List Int)} {ks : List Int} (o : KOK n cr ks) {c : List Int} {k j : Nat} (hk : (fmO n cr)[k]? = some (lf n c)) (hj : (grp (cr.map (lf n)) (lf n c))[0]? = some (j : Int)) : ks.idxOf (k : Int) = j ∧ (k : Int) ∈ ks ∧ j < cr.length := by
  obtain ⟨g1, g2⟩ := grp_first hj
  have gen : ∀ i, i < cr.length → (ks[i]? = some (k : Int) ↔ (cr.map (lf n))[i]? = some (lf n c)) := fun i hi => by
    obtain ⟨k', e1, e2⟩ := o.2 i cr[i] (List.getElem?_eq_getElem hi)
    rw [e1, List.getElem?_map, List.getElem?_eq_getElem hi]
    constructor
    · intro e
      have e : k' = k := by have := Option.some.inj e; omega
      rw [e, hk] at e2
      exact e2.symm
    · intro e
      rw [← hk] at e
      have : k' = k := (List.getElem?_inj (List.getElem?_eq_some_iff.mp e2).1 (fmO_nd n cr)).mp (e2.trans e)
      rw [this]
  have hjl : j < cr.length := by
    have := (List.getElem?_eq_some_iff.mp g1).1
    rwa [List.length_map] at this
  have hkj := (gen j hjl).mpr g1
  refine ⟨idx_of hkj fun i hi e => g2 i hi ((gen i (by omega)).mp e), List.mem_of_getElem? hkj, hjl⟩
theorem KOK.small {n : Int} {cr : List (List Int)} {ks : List Int} (o : KOK n cr ks) : ∀ x ∈ ks, 0 ≤ x ∧ x < (cr.length : Int) := fun x hx => by
  obtain ⟨i, hi, e⟩ := List.getElem_of_mem hx
  obtain ⟨k, e1, e2⟩ := o.2 i _ (List.getElem?_eq_getElem (by rw [← o.1]; exact hi))
  rw [List.getElem?_eq_getElem hi, e] at e1
  have := Option.some.inj e1
  have := (List.getElem?_eq_some_iff.mp e2).1
  have := fmO_len n cr
  omega
theorem fr_step {H G1 : Hp} {p lh lk lc lr dk dg : Addr} {ra ga ra' ga' : List Addr} {o1 o2 : HO} (fr : ∀ b ∈ p :: ftA lc lr dk dg ra ga, H b = none ∧ b ≠ lh ∧ b ≠ lk) (S : Same H G1) (h1 : G1 lh = some o1) (h2 : G1 lk = some o2) (nw : ∀ b ∈ ra' ++ ga', b ∈ ra ++ ga ∨ G1 b = none) : ∀ b ∈ p :: ftA lc lr dk dg ra' ga', H b = none ∧ b ≠ lh ∧ b ≠ lk := fun b hb => by
  have old : b ∈ ra ++ ga → H b = none ∧ b ≠ lh ∧ b ≠ lk := fun z => fr b (by simp [List.mem_append.mp z])
  have hb : b = p ∨ b = lc ∨ b = lr ∨ b = dk ∨ b = dg ∨ b ∈ ra' ++ ga' := by simpa using hb
  rcases hb with z | z | z | z | z | z
  · exact fr b (by rw [z]; simp)
  · exact fr b (by rw [z]; simp)
  · exact fr b (by rw [z]; simp)
  · exact fr b (by rw [z]; simp)
  · exact fr b (by rw [z]; simp)
  · rcases nw b z with y | y
    · exact old y
    · exact ⟨S.free y, (fun e => by rw [e, h1] at y; cases y), (fun e => by rw [e, h2] at y; cases y)⟩
theorem same_outs {H G1 G2 : Hp} {p lh lk lc lr dk dg : Addr} {ra ga : List Addr} (fr : ∀ b ∈ p :: ftA lc lr dk dg ra ga, H b = none ∧ b ≠ lh ∧ b ≠ lk) (S : Same H G1) (o : Outs (ftA lc lr dk dg ra ga) G1 G2) : Same H G2 := fun b ob e => o b ob (fun z => by
  have := (fr b (List.mem_cons_of_mem _ z)).1
  rw [e] at this
  cases this) (S _ _ e)
def LI (wd : World) (K : PySem.W.Frag) (H G : Hp) (p lh lk : Addr) (n : Int) (cr : List (List Int)) (ks : List Int) : Prop :=
  ∃ (wh : List V) (lc lr dk dg : Addr) (ra ga : List Addr), KpT wd K G p n cr lc lr dk dg ra ga ∧ (∀ b ∈ p :: ftA lc lr dk dg ra ga, H b = none ∧ b ≠ lh ∧ b ≠ lk) ∧ Same H G ∧ G lh = some (.lst wh) ∧ Paired (TupR G) wh cr ∧ G lk = some (.lst (ks.map V.int)) ∧ lh ≠ lk ∧ H lh = none ∧ H lk = none ∧ KOK n cr ks ∧ ∀ c ∈ cr, Tones n c ∧ Least n c (lf n c)
theorem LI.same {wd : World} {K : PySem.W.Frag} {H G G' : Hp} {p lh lk : Addr} {n : Int} {cr : List (List Int)} {ks : List Int} (l : LI wd K H G p lh lk n cr ks) (s : Same G G') : LI wd K H G' p lh lk n cr ks := by
  obtain ⟨wh, lc, lr, dk, dg, ra, ga, kp, fr, S, h1, pr, h2, ne, f1, f2, ko, tn⟩ := l
  exact ⟨wh, lc, lr, dk, dg, ra, ga, kp.same s, fr, S.trans s, s _ _ h1, prd_imp (fun _ _ r => r.mono s.tk) pr, s _ _ h2, ne, f1, f2, ko, tn⟩
theorem s2_of {H H1 H2 : Hp} {p : Addr} (p0 : H p = none) (s1 : Same H H1) (v2 : Save p H1 H2) : Same H H2 := fun b o e => v2 _ _ (fun z => by rw [z, p0] at e; cases e) (s1 _ _ e)
theorem LI.start {w : World} {K : PySem.W.Frag} {H H1 H2 H3 H4 : Hp} {p lh lk lc lr dk dg : Addr} {n : Int} (p0 : H p = none) (s1 : Same H H1) (v2 : Save p H1 H2) (lc0 : H1 lc = none) (lr0 : H1 lr = none) (dk0 : H1 dk = none) (dg0 : H1 dg = none)
    (kp2 : KpT w K H2 p n [] lc lr dk dg [] []) (lh0 : H2 lh = none) (s3 : Same H2 H3) (h3 : H3 lh = some (.lst [])) (lk0 : H3 lk = none) (s4 : Same H3 H4) (h4 : H4 lk = some (.lst [])) : LI w K H H4 p lh lk n [] [] := by
  have S2 := s2_of p0 s1 v2
  refine ⟨[], lc, lr, dk, dg, [], [], (kp2.same s3).same s4, fun b hb => ?_, (S2.trans s3).trans s4, s4 _ _ h3, .nil, h4, (fun e => by rw [← e, h3] at lk0; cases lk0), S2.free lh0, (S2.trans s3).free lk0, ⟨rfl, (fun i c hc => by simp at hc)⟩, fun c hc => nomatch hc⟩
  have hb2 : ∃ o, H2 b = some o := by
    obtain ⟨wc, hc, _⟩ := kp2.c1
    obtain ⟨kvs, hk, _⟩ := kp2.k1
    obtain ⟨gvs, hg, _⟩ := kp2.g1
    obtain ⟨C, dx, _, hp⟩ := kp2.ins
    have hb : b = p ∨ b = lc ∨ b = lr ∨ b = dk ∨ b = dg := by simpa using hb
    rcases hb with rfl | rfl | rfl | rfl | rfl
    · exact ⟨_, hp⟩
    · exact ⟨_, hc⟩
    · exact ⟨_, kp2.r1⟩
    · exact ⟨_, hk⟩
    · exact ⟨_, hg⟩
  obtain ⟨o, hb2⟩ := hb2
  refine ⟨?_, (fun e => by rw [e, lh0] at hb2; cases hb2), (fun e => by rw [← e, s3 _ _ hb2] at lk0; cases lk0)⟩
  have hb : b = p ∨ b = lc ∨ b = lr ∨ b = dk ∨ b = dg := by simpa using hb
  rcases hb with rfl | rfl | rfl | rfl | rfl
  · exact p0
  · exact s1.free lc0
  · exact s1.free lr0
  · exact s1.free dk0
  · exact s1.free dg0

theorem join2 {k : St → Hp → Prop} (S : Int → St) (H : Hp) {g : Prop} (h1 : (∀ n : Int, 3 ≤ n → n ≤ 24 → k (S n) H) → g) (h2 : ∀ n : Int, 3 ≤ n → n ≤ 24 → k (S n) H) : g := h1 h2

structure Txt (K : PySem.W.Frag) (mg : Str → Option Value) : Prop where
  b_len : mg "len" = none
  b_max : mg "max" = none
  b_min : mg "min" = none
  b_range : mg "range" = none
  b_isinstance : mg "isinstance" = none
  b_int : mg "int" = none
  b_bool : mg "bool" = none
  b_tuple : mg "tuple" = none
  b_sorted : mg "sorted" = none
  b_set : mg "set" = none
  b_list : mg "list" = none
  b_enumerate : mg "enumerate" = none
  c_Keeper : HasC K mg "Keeper" ["n", "crowds", "rolls", "kinds", "groups"]
abbrev s_step : Stmt := top 2
theorem sc_step : FnScope ["n", "one", "other"] ["n", "one", "other"] (defScope s_step) := ⟨rfl, rfl, rfl, by decide +kernel, rfl, by decide +kernel, by decide +kernel⟩
def sp_step (wd : World) (K : PySem.W.Frag) : Sp := fun vs H Q _ => ∃ n a b : Int, vs = [.int n, .int a, .int b] ∧ 0 < n ∧ Q (.int ((b - a) % n)) H
abbrev s_distance : Stmt := top 3
theorem sc_distance : FnScope ["n", "one", "other"] ["n", "one", "other"] (defScope s_distance) := ⟨rfl, rfl, rfl, by decide +kernel, rfl, by decide +kernel, by decide +kernel⟩
def sp_distance (wd : World) (K : PySem.W.Frag) : Sp := fun vs H Q _ => ∃ n a b : Int, vs = [.int n, .int a, .int b] ∧ 0 < n ∧ Q (.int (dist n a b)) H
abbrev s_done : Stmt := top 4
theorem sc_done : FnScope ["n", "change", "tone"] ["n", "change", "tone"] (defScope s_done) := ⟨rfl, rfl, rfl, by decide +kernel, rfl, by decide +kernel, by decide +kernel⟩
inductive sx_done (wd : World) (K : PySem.W.Frag) (vs : List V) (H : Hp) (Q : VK) : Prop
  | mk (n : Int) (p : Addr) (t : Bool) (m x : Int) (h1 : vs = [.int n, .ref p, .int x]) (h2 : 0 < n) (h3 : H p = some (.tup (chV t m))) (h4 : Q (.int (dn n t m x)) H) : sx_done wd K vs H Q
def sp_done (wd : World) (K : PySem.W.Frag) : Sp := fun vs H Q _ => sx_done wd K vs H Q
abbrev s_changes : Stmt := top 5
theorem sc_changes : FnScope ["n", "turns", "mirrors"] ["n"] (defScope s_changes) := ⟨rfl, rfl, rfl, by decide +kernel, rfl, by decide +kernel, by decide +kernel⟩
def sp_changes (wd : World) (K : PySem.W.Frag) : Sp := fun vs H Q _ => ∃ n : Int, vs = [.int n] ∧ 3 ≤ n ∧ n ≤ 24 ∧ ∀ (l : Addr) (ws : List V) (H' : Hp), H l = none → Same H H' → H' l = some (.lst ws) → Paired (ChgR H') ws (allC n) → Q (.ref l) H'
abbrev s_crowd_of : Stmt := top 7
theorem sc_crowd_of : FnScope ["n", "numbers"] ["n", "numbers"] (defScope s_crowd_of) := ⟨rfl, rfl, rfl, by decide +kernel, rfl, by decide +kernel, by decide +kernel⟩
inductive sx_crowd_of (wd : World) (K : PySem.W.Frag) (vs : List V) (H : Hp) (Q : VK) : Prop
  | mk (n : Int) (p : Addr) (ns : List Int) (h1 : vs = [.int n, .ref p]) (h2 : (SqL K H p (ns.map V.int) ∨ SqT K H p (ns.map V.int))) (h3 : 0 < n) (h4 : n ≤ 24) (h5 : ns.length ≤ 1000) (h6 : ∀ (r : Addr) (H' : Hp), Same H H' → H' r = some (.tup ((cw n fun y => decide (y ∈ ns.map (· % n))).map V.int)) → Q (.ref r) H') : sx_crowd_of wd K vs H Q
def sp_crowd_of (wd : World) (K : PySem.W.Frag) : Sp := fun vs H Q _ => sx_crowd_of wd K vs H Q
abbrev s_changed : Stmt := top 8
theorem sc_changed : FnScope ["n", "crowd", "change"] ["n", "crowd", "change"] (defScope s_changed) := ⟨rfl, rfl, rfl, by decide +kernel, rfl, by decide +kernel, by decide +kernel⟩
inductive sx_changed (wd : World) (K : PySem.W.Frag) (vs : List V) (H : Hp) (Q : VK) : Prop
  | mk (n : Int) (p : Addr) (cs : List Int) (c : Addr) (t : Bool) (m : Int) (h1 : vs = [.int n, .ref p, .ref c]) (h2 : SqT K H p (cs.map V.int)) (h3 : H c = some (.tup (chV t m))) (h4 : 0 < n) (h5 : n ≤ 24) (h6 : cs.length ≤ 1000) (h7 : ∀ (r : Addr) (H' : Hp), Same H H' → H' r = some (.tup ((img n t m cs).map V.int)) → Q (.ref r) H') : sx_changed wd K vs H Q
def sp_changed (wd : World) (K : PySem.W.Frag) : Sp := fun vs H Q _ => sx_changed wd K vs H Q
abbrev s_distances : Stmt := top 9
theorem sc_distances : FnScope ["n", "crowd", "found", "place", "one"] ["n", "crowd"] (defScope s_distances) := ⟨rfl, rfl, rfl, by decide +kernel, rfl, by decide +kernel, by decide +kernel⟩
inductive sx_distances (wd : World) (K : PySem.W.Frag) (vs : List V) (H : Hp) (Q : VK) : Prop
  | mk (n : Int) (p : Addr) (cs : List Int) (h1 : vs = [.int n, .ref p]) (h2 : H p = some (.tup (cs.map V.int))) (h3 : 0 < n) (h4 : cs.length ≤ 24) (h5 : ∀ (l : Addr) (H' : Hp), H l = none → Same H H' → H' l = some (.lst ((dists n cs).map V.int)) → Q (.ref l) H') : sx_distances wd K vs H Q
def sp_distances (wd : World) (K : PySem.W.Frag) : Sp := fun vs H Q _ => sx_distances wd K vs H Q
abbrev s_counts : Stmt := top 10
theorem sc_counts : FnScope ["n", "crowd", "found"] ["n", "crowd"] (defScope s_counts) := ⟨rfl, rfl, rfl, by decide +kernel, rfl, by decide +kernel, by decide +kernel⟩
inductive sx_counts (wd : World) (K : PySem.W.Frag) (vs : List V) (H : Hp) (Q : VK) : Prop
  | mk (n : Int) (p : Addr) (cs : List Int) (h1 : vs = [.int n, .ref p]) (h2 : H p = some (.tup (cs.map V.int))) (h3 : 0 < n) (h4 : n ≤ 24) (h5 : cs.length ≤ 24) (h6 : ∀ (r : Addr) (H' : Hp), Same H H' → H' r = some (.tup ((cnts n cs).map V.int)) → Q (.ref r) H') : sx_counts wd K vs H Q
def sp_counts (wd : World) (K : PySem.W.Frag) : Sp := fun vs H Q _ => sx_counts wd K vs H Q
abbrev s_ways : Stmt := top 15
theorem sc_ways : FnScope ["n", "one", "other"] ["n", "one", "other"] (defScope s_ways) := ⟨rfl, rfl, rfl, by decide +kernel, rfl, by decide +kernel, by decide +kernel⟩
inductive sx_ways (wd : World) (K : PySem.W.Frag) (vs : List V) (H : Hp) (Q : VK) : Prop
  | mk (n : Int) (p : Addr) (cs : List Int) (p' : Addr) (ds : List Int) (h1 : vs = [.int n, .ref p, .ref p']) (h2 : SqT K H p (cs.map V.int)) (h3 : SqT K H p' (ds.map V.int)) (h4 : 3 ≤ n) (h5 : n ≤ 24) (h6 : cs.length ≤ 1000) (h7 : ∀ (l : Addr) (ws : List V) (H' : Hp), H l = none → Same H H' → H' l = some (.lst ws) → Paired (ChgR H') ws (wys n cs ds) → Q (.ref l) H') : sx_ways wd K vs H Q
def sp_ways (wd : World) (K : PySem.W.Frag) : Sp := fun vs H Q _ => sx_ways wd K vs H Q
abbrev s_images : Stmt := top 16
theorem sc_images : FnScope ["n", "crowd"] ["n", "crowd"] (defScope s_images) := ⟨rfl, rfl, rfl, by decide +kernel, rfl, by decide +kernel, by decide +kernel⟩
inductive sx_images (wd : World) (K : PySem.W.Frag) (vs : List V) (H : Hp) (Q : VK) : Prop
  | mk (n : Int) (p : Addr) (cs : List Int) (h1 : vs = [.int n, .ref p]) (h2 : SqT K H p (cs.map V.int)) (h3 : 3 ≤ n) (h4 : n ≤ 24) (h5 : Tones n cs) (h6 : ∀ (l : Addr) (us : List (List Int × Addr)) (H' : Hp), H l = none → Same H H' → H' l = some (.lst (refsV us)) → TupsAt H' us → Imgs n cs (us.map (·.1)) → Q (.ref l) H') : sx_images wd K vs H Q
def sp_images (wd : World) (K : PySem.W.Frag) : Sp := fun vs H Q _ => sx_images wd K vs H Q
abbrev s_least_form : Stmt := top 17
theorem sc_least_form : FnScope ["n", "crowd"] ["n", "crowd"] (defScope s_least_form) := ⟨rfl, rfl, rfl, by decide +kernel, rfl, by decide +kernel, by decide +kernel⟩
inductive sx_least_form (wd : World) (K : PySem.W.Frag) (vs : List V) (H : Hp) (Q : VK) : Prop
  | mk (n : Int) (p : Addr) (cs : List Int) (h1 : vs = [.int n, .ref p]) (h2 : SqT K H p (cs.map V.int)) (h3 : 3 ≤ n) (h4 : n ≤ 24) (h5 : Tones n cs) (h6 : ∀ (k : List Int), Least n cs k → ∀ (r : Addr) (H' : Hp), Same H H' → H' r = some (.tup ((k).map V.int)) → Q (.ref r) H') : sx_least_form wd K vs H Q
def sp_least_form (wd : World) (K : PySem.W.Frag) : Sp := fun vs H Q _ => sx_least_form wd K vs H Q
abbrev s_Keeper___init__ : Stmt := inClass (top 19) 0
theorem sc_Keeper___init__ : FnScope ["self", "n"] ["self", "n"] (defScope s_Keeper___init__) := ⟨rfl, rfl, rfl, by decide +kernel, rfl, by decide +kernel, by decide +kernel⟩
def sp_Keeper___init__ (wd : World) (K : PySem.W.Frag) : Sp := fun vs H Q _ => ∃ (p : Addr) (n : Int), vs = [.ref p, .int n] ∧ Ins K "Keeper" H p [] ∧ ∀ (lc lr dk dg : Addr) (H' : Hp), Save p H H' → H lc = none → H lr = none → H dk = none → H dg = none → KpA wd K H' p n [] [] [] [] lc lr dk dg [] [] → Q .non H'
abbrev s_Keeper_new_kind : Stmt := inClass (top 19) 3
theorem sc_Keeper_new_kind : FnScope ["self", "form", "kind"] ["self", "form"] (defScope s_Keeper_new_kind) := ⟨rfl, rfl, rfl, by decide +kernel, rfl, by decide +kernel, by decide +kernel⟩
inductive sx_Keeper_new_kind (wd : World) (K : PySem.W.Frag) (vs : List V) (H : Hp) (Q : VK) : Prop
  | mk (a : Addr) (f : List Int) (p : Addr) (n : Int) (cr fm rl : List (List Int)) (gr : List (STab.NK × List Int)) (lc lr dk dg : Addr) (ra ga : List Addr) (h1 : vs = [.ref p, .ref a]) (h2 : KpA wd K H p n cr fm rl gr lc lr dk dg ra ga) (h3 : H a = some (.tup (f.map V.int))) (h4 : f ∉ fm) (h5 : 0 < n) (h6 : n ≤ 24) (h7 : f.length ≤ 24) (h8 : rl.length = fm.length) (h9 : fm.length ≤ 100) (h10 : gr.length ≤ 100) (h11 : (∀ q ∈ gr, q.2.length ≤ 100)) (h12 : ∀ (ra' ga' : List Addr) (H' : Hp), Outs (ftA lc lr dk dg ra ga) H H' → (∀ b ∈ ra' ++ ga', b ∈ ra ++ ga ∨ H b = none) → TupKeep H H' → KpA wd K H' p n cr (fm ++ [f]) (rl ++ [[]]) (gAdd gr (keyO n f) (fm.length : Int)) lc lr dk dg ra' ga' → Q .non H') : sx_Keeper_new_kind wd K vs H Q
def sp_Keeper_new_kind (wd : World) (K : PySem.W.Frag) : Sp := fun vs H Q _ => sx_Keeper_new_kind wd K vs H Q
abbrev s_Keeper_kind_of : Stmt := inClass (top 19) 2
theorem sc_Keeper_kind_of : FnScope ["self", "crowd", "form"] ["self", "crowd"] (defScope s_Keeper_kind_of) := ⟨rfl, rfl, rfl, by decide +kernel, rfl, by decide +kernel, by decide +kernel⟩
inductive sx_Keeper_kind_of (wd : World) (K : PySem.W.Frag) (vs : List V) (H : Hp) (Q : VK) : Prop
  | mk (a : Addr) (cs : List Int) (p : Addr) (n : Int) (cr fm rl : List (List Int)) (gr : List (STab.NK × List Int)) (lc lr dk dg : Addr) (ra ga : List Addr) (h1 : vs = [.ref p, .ref a]) (h2 : KpA wd K H p n cr fm rl gr lc lr dk dg ra ga) (h3 : H a = some (.tup (cs.map V.int))) (h4 : Tones n cs) (h5 : 3 ≤ n) (h6 : n ≤ 24) (h7 : rl.length = fm.length) (h8 : fm.length ≤ 100) (h9 : gr.length ≤ 100) (h10 : (∀ q ∈ gr, q.2.length ≤ 100)) (h11 : ∀ (f : List Int) (k : Nat) (fm' rl' : List (List Int)) (gr' : List (STab.NK × List Int)) (ra' ga' : List Addr) (H' : Hp), Least n cs f → fm'[k]? = some f → ((f ∈ fm ∧ fm' = fm ∧ rl' = rl ∧ gr' = gr) ∨ (f ∉ fm ∧ fm' = fm ++ [f] ∧ rl' = rl ++ [[]] ∧ gr' = gAdd gr (keyO n f) (fm.length : Int))) → Outs (ftA lc lr dk dg ra ga) H H' → (∀ b ∈ ra' ++ ga', b ∈ ra ++ ga ∨ H b = none) → TupKeep H H' → KpA wd K H' p n cr fm' rl' gr' lc lr dk dg ra' ga' → Q (.int (k : Int)) H') : sx_Keeper_kind_of wd K vs H Q
def sp_Keeper_kind_of (wd : World) (K : PySem.W.Frag) : Sp := fun vs H Q _ => sx_Keeper_kind_of wd K vs H Q
abbrev s_Keeper_told : Stmt := inClass (top 19) 1
theorem sc_Keeper_told : FnScope ["self", "crowd", "kind", "first"] ["self", "crowd"] (defScope s_Keeper_told) := ⟨rfl, rfl, rfl, by decide +kernel, rfl, by decide +kernel, by decide +kernel⟩
inductive sx_Keeper_told (wd : World) (K : PySem.W.Frag) (vs : List V) (H : Hp) (Q : VK) : Prop
  | mk (a : Addr) (cs : List Int) (p : Addr) (n : Int) (cr : List (List Int)) (lc lr dk dg : Addr) (ra ga : List Addr) (h1 : vs = [.ref p, .ref a]) (h2 : KpT wd K H p n cr lc lr dk dg ra ga) (h3 : H a = some (.tup (cs.map V.int))) (h4 : Tones n cs) (h5 : (∀ c ∈ cr, Tones n c ∧ Least n c (lf n c))) (h6 : 3 ≤ n) (h7 : n ≤ 24) (h8 : cr.length ≤ 90) (h9 : ∀ (k j : Nat) (f0 : List Int) (c : Bool × Int) (ra' ga' : List Addr) (r rc : Addr) (H' : Hp), Least n cs (lf n cs) → (fmO n (cr ++ [cs]))[k]? = some (lf n cs) → (grp ((cr ++ [cs]).map (lf n)) (lf n cs))[0]? = some (j : Int) → (cr ++ [cs])[j]? = some f0 → (wys n f0 cs)[0]? = some c → Outs (ftA lc lr dk dg ra ga) H H' → (∀ b ∈ ra' ++ ga', b ∈ ra ++ ga ∨ H b = none) → TupKeep H H' → KpT wd K H' p n (cr ++ [cs]) lc lr dk dg ra' ga' → H' r = some (.tup [.int (k : Int), .ref rc]) → H' rc = some (.tup (chV c.1 c.2)) → Q (.ref r) H') : sx_Keeper_told wd K vs H Q
def sp_Keeper_told (wd : World) (K : PySem.W.Frag) : Sp := fun vs H Q _ => sx_Keeper_told wd K vs H Q
abbrev s_Keeper_many : Stmt := inClass (top 19) 4
theorem sc_Keeper_many : FnScope ["self"] ["self"] (defScope s_Keeper_many) := ⟨rfl, rfl, rfl, by decide +kernel, rfl, by decide +kernel, by decide +kernel⟩
inductive sx_Keeper_many (wd : World) (K : PySem.W.Frag) (vs : List V) (H : Hp) (Q : VK) : Prop
  | mk (p : Addr) (n : Int) (cr : List (List Int)) (lc lr dk dg : Addr) (ra ga : List Addr) (h1 : vs = [.ref p]) (h2 : KpT wd K H p n cr lc lr dk dg ra ga) (h3 : Q (.int (cr.length : Int)) H) : sx_Keeper_many wd K vs H Q
def sp_Keeper_many (wd : World) (K : PySem.W.Frag) : Sp := fun vs H Q _ => sx_Keeper_many wd K vs H Q
abbrev s_Keeper_crowd_at : Stmt := inClass (top 19) 7
theorem sc_Keeper_crowd_at : FnScope ["self", "number"] ["self", "number"] (defScope s_Keeper_crowd_at) := ⟨rfl, rfl, rfl, by decide +kernel, rfl, by decide +kernel, by decide +kernel⟩
inductive sx_Keeper_crowd_at (wd : World) (K : PySem.W.Frag) (vs : List V) (H : Hp) (Q : VK) : Prop
  | mk (i : Nat) (c : List Int) (p : Addr) (n : Int) (cr : List (List Int)) (lc lr dk dg : Addr) (ra ga : List Addr) (h1 : vs = [.ref p, .int (i : Int)]) (h2 : KpT wd K H p n cr lc lr dk dg ra ga) (h3 : cr[i]? = some c) (h4 : ∀ r : Addr, H r = some (.tup (c.map V.int)) → Q (.ref r) H) : sx_Keeper_crowd_at wd K vs H Q
def sp_Keeper_crowd_at (wd : World) (K : PySem.W.Frag) : Sp := fun vs H Q _ => sx_Keeper_crowd_at wd K vs H Q
abbrev s_Keeper_between : Stmt := inClass (top 19) 8
theorem sc_Keeper_between : FnScope ["self", "one", "other"] ["self", "one", "other"] (defScope s_Keeper_between) := ⟨rfl, rfl, rfl, by decide +kernel, rfl, by decide +kernel, by decide +kernel⟩
inductive sx_Keeper_between (wd : World) (K : PySem.W.Frag) (vs : List V) (H : Hp) (Q : VK) : Prop
  | mk (i j : Nat) (c d : List Int) (p : Addr) (n : Int) (cr : List (List Int)) (lc lr dk dg : Addr) (ra ga : List Addr) (h1 : vs = [.ref p, .int (i : Int), .int (j : Int)]) (h2 : KpT wd K H p n cr lc lr dk dg ra ga) (h3 : cr[i]? = some c) (h4 : cr[j]? = some d) (h5 : Tones n c) (h6 : 3 ≤ n) (h7 : n ≤ 24) (h8 : ∀ (l : Addr) (ws : List V) (H' : Hp), H l = none → Same H H' → H' l = some (.lst ws) → Paired (ChgR H') ws (wys n c d) → Q (.ref l) H') : sx_Keeper_between wd K vs H Q
def sp_Keeper_between (wd : World) (K : PySem.W.Frag) : Sp := fun vs H Q _ => sx_Keeper_between wd K vs H Q
abbrev s_l_cell_at : Stmt := top 21
theorem sc_l_cell_at : FnScope ["_law_script", "_law_k"] ["_law_script", "_law_k"] (defScope s_l_cell_at) := ⟨rfl, rfl, rfl, by decide +kernel, rfl, by decide +kernel, by decide +kernel⟩
inductive sx_l_cell_at (wd : World) (K : PySem.W.Frag) (vs : List V) (H : Hp) (Q : VK) : Prop
  | mk (a : Addr) (ns : List Int) (k : Int) (h1 : vs = [.ref a, .int k]) (h2 : SqL K H a (ns.map V.int)) (h3 : ns.length ≤ 63) (h4 : ∀ c : Int, Q (.int c) H) : sx_l_cell_at wd K vs H Q
def sp_l_cell_at (wd : World) (K : PySem.W.Frag) : Sp := fun vs H Q _ => sx_l_cell_at wd K vs H Q
abbrev s_l_mixed : Stmt := top 22
theorem sc_l_mixed : FnScope ["_law_script", "_law_k", "_law_salt", "_law_cell", "_law_lap", "_law_near"] ["_law_script", "_law_k", "_law_salt"] (defScope s_l_mixed) := ⟨rfl, rfl, rfl, by decide +kernel, rfl, by decide +kernel, by decide +kernel⟩
inductive sx_l_mixed (wd : World) (K : PySem.W.Frag) (vs : List V) (H : Hp) (Q : VK) : Prop
  | mk (a : Addr) (ns : List Int) (k z : Int) (h1 : vs = [.ref a, .int k, .int z]) (h2 : SqL K H a (ns.map V.int)) (h3 : ns.length ≤ 63) (h4 : (0 ≤ k ∧ k ≤ 1000000)) (h5 : (0 ≤ z ∧ z ≤ 1000000)) (h6 : ∀ c : Int, 0 ≤ c → c < 2147483648 → Q (.int c) H) : sx_l_mixed wd K vs H Q
def sp_l_mixed (wd : World) (K : PySem.W.Frag) : Sp := fun vs H Q _ => sx_l_mixed wd K vs H Q
abbrev s_l_wheel : Stmt := top 23
theorem sc_l_wheel : FnScope ["_law_script", "_law_most"] ["_law_script", "_law_most"] (defScope s_l_wheel) := ⟨rfl, rfl, rfl, by decide +kernel, rfl, by decide +kernel, by decide +kernel⟩
def sp_l_wheel (wd : World) (K : PySem.W.Frag) : Sp := fun vs H Q _ => ∃ (a : Addr) (ns : List Int), vs = [.ref a, .int 24] ∧ SqL K H a (ns.map V.int) ∧ ns.length ≤ 63 ∧ ∀ n : Int, 3 ≤ n → n ≤ 24 → Q (.int n) H
abbrev s_l_row : Stmt := top 25
theorem sc_l_row : FnScope ["_law_script", "_law_k", "_law_salt", "_law_n", "_law_left", "_law_row_here", "_law_j"] ["_law_script", "_law_k", "_law_salt", "_law_n"] (defScope s_l_row) := ⟨rfl, rfl, rfl, by decide +kernel, rfl, by decide +kernel, by decide +kernel⟩
inductive sx_l_row (wd : World) (K : PySem.W.Frag) (vs : List V) (H : Hp) (Q : VK) : Prop
  | mk (a : Addr) (ns : List Int) (k z n : Int) (h1 : vs = [.ref a, .int k, .int z, .int n]) (h2 : SqL K H a (ns.map V.int)) (h3 : ns.length ≤ 63) (h4 : (0 ≤ k ∧ k ≤ 100000)) (h5 : (0 ≤ z ∧ z ≤ 100000)) (h6 : 0 < n) (h7 : n ≤ 24) (h8 : ∀ xs : List Int, xs.Perm (rng n) → ∀ (r : Addr) (H' : Hp), Same H H' → H' r = some (.tup ((xs).map V.int)) → Q (.ref r) H') : sx_l_row wd K vs H Q
def sp_l_row (wd : World) (K : PySem.W.Frag) : Sp := fun vs H Q _ => sx_l_row wd K vs H Q
abbrev s_l_sized : Stmt := top 26
theorem sc_l_sized : FnScope ["_law_script", "_law_k", "_law_salt", "_law_n", "_law_size"] ["_law_script", "_law_k", "_law_salt", "_law_n", "_law_size"] (defScope s_l_sized) := ⟨rfl, rfl, rfl, by decide +kernel, rfl, by decide +kernel, by decide +kernel⟩
inductive sx_l_sized (wd : World) (K : PySem.W.Frag) (vs : List V) (H : Hp) (Q : VK) : Prop
  | mk (a : Addr) (ns : List Int) (k z n m : Int) (h1 : vs = [.ref a, .int k, .int z, .int n, .int m]) (h2 : SqL K H a (ns.map V.int)) (h3 : ns.length ≤ 63) (h4 : (0 ≤ k ∧ k ≤ 100000)) (h5 : (0 ≤ z ∧ z ≤ 100000)) (h6 : 0 < n) (h7 : n ≤ 24) (h8 : 0 ≤ m) (h9 : m ≤ n) (h10 : ∀ f : Int → Bool, ((cw n f).length : Int) = m → ∀ (r : Addr) (H' : Hp), Same H H' → H' r = some (.tup ((cw n f).map V.int)) → Q (.ref r) H') : sx_l_sized wd K vs H Q
def sp_l_sized (wd : World) (K : PySem.W.Frag) : Sp := fun vs H Q _ => sx_l_sized wd K vs H Q
abbrev s_l_change : Stmt := top 27
theorem sc_l_change : FnScope ["_law_script", "_law_k", "_law_salt", "_law_n", "_law_number"] ["_law_script", "_law_k", "_law_salt", "_law_n"] (defScope s_l_change) := ⟨rfl, rfl, rfl, by decide +kernel, rfl, by decide +kernel, by decide +kernel⟩
inductive sx_l_change (wd : World) (K : PySem.W.Frag) (vs : List V) (H : Hp) (Q : VK) : Prop
  | mk (a : Addr) (ns : List Int) (k z n : Int) (h1 : vs = [.ref a, .int k, .int z, .int n]) (h2 : SqL K H a (ns.map V.int)) (h3 : ns.length ≤ 63) (h4 : (0 ≤ k ∧ k ≤ 1000000)) (h5 : (0 ≤ z ∧ z ≤ 1000000)) (h6 : 0 < n) (h7 : ∀ (t : Bool) (m : Int) (p : Addr) (H' : Hp), 0 ≤ m → m < n → Same H H' → H p = none → H' p = some (.tup (chV t m)) → Q (.ref p) H') : sx_l_change wd K vs H Q
def sp_l_change (wd : World) (K : PySem.W.Frag) : Sp := fun vs H Q _ => sx_l_change wd K vs H Q
abbrev s_l_done : Stmt := top 28
theorem sc_l_done : FnScope ["_law_n", "_law_change_here", "_law_tone"] ["_law_n", "_law_change_here", "_law_tone"] (defScope s_l_done) := ⟨rfl, rfl, rfl, by decide +kernel, rfl, by decide +kernel, by decide +kernel⟩
inductive sx_l_done (wd : World) (K : PySem.W.Frag) (vs : List V) (H : Hp) (Q : VK) : Prop
  | mk (n : Int) (p : Addr) (t : Bool) (m x : Int) (h1 : vs = [.int n, .ref p, .int x]) (h2 : 0 < n) (h3 : H p = some (.tup (chV t m))) (h4 : Q (.int (dn n t m x)) H) : sx_l_done wd K vs H Q
def sp_l_done (wd : World) (K : PySem.W.Frag) : Sp := fun vs H Q _ => sx_l_done wd K vs H Q
abbrev s_l_changed : Stmt := top 29
theorem sc_l_changed : FnScope ["_law_n", "_law_crowd_here", "_law_change_here"] ["_law_n", "_law_crowd_here", "_law_change_here"] (defScope s_l_changed) := ⟨rfl, rfl, rfl, by decide +kernel, rfl, by decide +kernel, by decide +kernel⟩
inductive sx_l_changed (wd : World) (K : PySem.W.Frag) (vs : List V) (H : Hp) (Q : VK) : Prop
  | mk (n : Int) (p : Addr) (cs : List Int) (c : Addr) (t : Bool) (m : Int) (h1 : vs = [.int n, .ref p, .ref c]) (h2 : SqT K H p (cs.map V.int)) (h3 : H c = some (.tup (chV t m))) (h4 : 0 < n) (h5 : n ≤ 24) (h6 : Tones n cs) (h7 : ∀ (r : Addr) (H' : Hp), Same H H' → H' r = some (.tup ((img n t m cs).map V.int)) → Q (.ref r) H') : sx_l_changed wd K vs H Q
def sp_l_changed (wd : World) (K : PySem.W.Frag) : Sp := fun vs H Q _ => sx_l_changed wd K vs H Q
abbrev s_l_changes : Stmt := top 30
theorem sc_l_changes : FnScope ["_law_n"] ["_law_n"] (defScope s_l_changes) := ⟨rfl, rfl, rfl, by decide +kernel, rfl, by decide +kernel, by decide +kernel⟩
def sp_l_changes (wd : World) (K : PySem.W.Frag) : Sp := fun vs H Q _ => ∃ n : Int, vs = [.int n] ∧ 3 ≤ n ∧ n ≤ 24 ∧ ∀ (l : Addr) (ws : List V) (H' : Hp), H l = none → Same H H' → H' l = some (.lst ws) → Paired (ChgR H') ws (allC n) → Q (.ref l) H'
abbrev s_l_next : Stmt := top 31
theorem sc_l_next : FnScope ["_law_script", "_law_k", "_law_n", "_law_heard", "_law_number", "_law_one"] ["_law_script", "_law_k", "_law_n", "_law_heard"] (defScope s_l_next) := ⟨rfl, rfl, rfl, by decide +kernel, rfl, by decide +kernel, by decide +kernel⟩
inductive sx_l_next (wd : World) (K : PySem.W.Frag) (vs : List V) (H : Hp) (Q : VK) : Prop
  | mk (a : Addr) (ns : List Int) (k n : Int) (l : Addr) (wc : List V) (cr : List (List Int)) (h1 : vs = [.ref a, .int k, .int n, .ref l]) (h2 : SqL K H a (ns.map V.int)) (h3 : ns.length ≤ 63) (h4 : (0 ≤ k ∧ k ≤ 100000)) (h5 : 0 < n) (h6 : n ≤ 24) (h7 : H l = some (.lst wc)) (h8 : Paired (TupR H) wc cr) (h9 : (∀ c ∈ cr, Tones n c)) (h10 : ∀ xs : List Int, Tones n xs → ∀ (r : Addr) (H' : Hp), Same H H' → H' r = some (.tup ((xs).map V.int)) → Q (.ref r) H') : sx_l_next wd K vs H Q
def sp_l_next (wd : World) (K : PySem.W.Frag) : Sp := fun vs H Q _ => sx_l_next wd K vs H Q
abbrev s_l_alike : Stmt := top 32
theorem sc_l_alike : FnScope ["_law_n", "_law_one", "_law_other", "_law_change_here"] ["_law_n", "_law_one", "_law_other"] (defScope s_l_alike) := ⟨rfl, rfl, rfl, by decide +kernel, rfl, by decide +kernel, by decide +kernel⟩
inductive sx_l_alike (wd : World) (K : PySem.W.Frag) (vs : List V) (H : Hp) (Q : VK) : Prop
  | mk (n : Int) (p : Addr) (cs : List Int) (p' : Addr) (ds : List Int) (h1 : vs = [.int n, .ref p, .ref p']) (h2 : H p = some (.tup (cs.map V.int))) (h3 : H p' = some (.tup (ds.map V.int))) (h4 : 3 ≤ n) (h5 : n ≤ 24) (h6 : Tones n cs) (h7 : ∀ H', Same H H' → Q (.bl (decide (0 < (wys n cs ds).length))) H') : sx_l_alike wd K vs H Q
def sp_l_alike (wd : World) (K : PySem.W.Frag) : Sp := fun vs H Q _ => sx_l_alike wd K vs H Q
abbrev s_l_pair : Stmt := top 33
theorem sc_l_pair : FnScope ["_law_n", "_law_keeper", "_law_heard", "_law_kinds", "_law_one", "_law_other", "_law_found", "_law_alike_here", "_law_due", "_law_kept"] ["_law_n", "_law_keeper", "_law_heard", "_law_kinds", "_law_one", "_law_other"] (defScope s_l_pair) := ⟨rfl, rfl, rfl, by decide +kernel, rfl, by decide +kernel, by decide +kernel⟩
inductive sx_l_pair (wd : World) (K : PySem.W.Frag) (vs : List V) (H : Hp) (Q : VK) : Prop
  | mk (lh lk : Addr) (i j k1 k2 : Nat) (c d : List Int) (wh : List V) (ks : List Int) (p : Addr) (n : Int) (cr : List (List Int)) (lc lr dk dg : Addr) (ra ga : List Addr) (h1 : vs = [.int n, .ref p, .ref lh, .ref lk, .int (i : Int), .int (j : Int)]) (h2 : KpT wd K H p n cr lc lr dk dg ra ga) (h3 : H lh = some (.lst wh)) (h4 : Paired (TupR H) wh cr) (h5 : H lk = some (.lst (ks.map V.int))) (h6 : cr[i]? = some c) (h7 : cr[j]? = some d) (h8 : ks[i]? = some (k1 : Int)) (h9 : ks[j]? = some (k2 : Int)) (h10 : (fmO n cr)[k1]? = some (lf n c)) (h11 : (fmO n cr)[k2]? = some (lf n d)) (h12 : Tones n c) (h13 : Tones n d) (h14 : Least n c (lf n c)) (h15 : Least n d (lf n d)) (h16 : 3 ≤ n) (h17 : n ≤ 24) (h18 : ∀ H', Same H H' → Q (.bl true) H') : sx_l_pair wd K vs H Q
def sp_l_pair (wd : World) (K : PySem.W.Frag) : Sp := fun vs H Q _ => sx_l_pair wd K vs H Q
abbrev s_law : Stmt := top 34
theorem sc_law : FnScope ["_law_script", "_law_n", "_law_keeper", "_law_heard", "_law_kinds", "_law_k", "_law_crowd_here", "_law_found", "_law_one", "_law_other"] ["_law_script"] (defScope s_law) := ⟨rfl, rfl, rfl, by decide +kernel, rfl, by decide +kernel, by decide +kernel⟩
def sp_law (wd : World) (K : PySem.W.Frag) : Sp := fun vs H Q _ => ∃ (a : Addr) (ns : List Int), vs = [.ref a] ∧ SqL K H a (ns.map V.int) ∧ ns.length ≤ 63 ∧ ∀ H', Q (.bl true) H'
theorem seqL3 {t1 t2 t3 : TS} {D : Ends} {σ : St} {H : Hp} (h : let u3 : TS := t3; let u2 : TS := tSeq t2 u3; tSeq t1 u2 D σ H) : (tSeq t1 (tSeq t2 t3)) D σ H := h
theorem seqL4 {t1 t2 t3 t4 : TS} {D : Ends} {σ : St} {H : Hp} (h : let u4 : TS := t4; let u3 : TS := tSeq t3 u4; let u2 : TS := tSeq t2 u3; tSeq t1 u2 D σ H) : (tSeq t1 (tSeq t2 (tSeq t3 t4))) D σ H := h
theorem seqL5 {t1 t2 t3 t4 t5 : TS} {D : Ends} {σ : St} {H : Hp} (h : let u5 : TS := t5; let u4 : TS := tSeq t4 u5; let u3 : TS := tSeq t3 u4; let u2 : TS := tSeq t2 u3; tSeq t1 u2 D σ H) : (tSeq t1 (tSeq t2 (tSeq t3 (tSeq t4 t5)))) D σ H := h
theorem seqL6 {t1 t2 t3 t4 t5 t6 : TS} {D : Ends} {σ : St} {H : Hp} (h : let u6 : TS := t6; let u5 : TS := tSeq t5 u6; let u4 : TS := tSeq t4 u5; let u3 : TS := tSeq t3 u4; let u2 : TS := tSeq t2 u3; tSeq t1 u2 D σ H) : (tSeq t1 (tSeq t2 (tSeq t3 (tSeq t4 (tSeq t5 t6))))) D σ H := h
theorem seqL7 {t1 t2 t3 t4 t5 t6 t7 : TS} {D : Ends} {σ : St} {H : Hp} (h : let u7 : TS := t7; let u6 : TS := tSeq t6 u7; let u5 : TS := tSeq t5 u6; let u4 : TS := tSeq t4 u5; let u3 : TS := tSeq t3 u4; let u2 : TS := tSeq t2 u3; tSeq t1 u2 D σ H) : (tSeq t1 (tSeq t2 (tSeq t3 (tSeq t4 (tSeq t5 (tSeq t6 t7)))))) D σ H := h
theorem seqL8 {t1 t2 t3 t4 t5 t6 t7 t8 : TS} {D : Ends} {σ : St} {H : Hp} (h : let u8 : TS := t8; let u7 : TS := tSeq t7 u8; let u6 : TS := tSeq t6 u7; let u5 : TS := tSeq t5 u6; let u4 : TS := tSeq t4 u5; let u3 : TS := tSeq t3 u4; let u2 : TS := tSeq t2 u3; tSeq t1 u2 D σ H) : (tSeq t1 (tSeq t2 (tSeq t3 (tSeq t4 (tSeq t5 (tSeq t6 (tSeq t7 t8))))))) D σ H := h
theorem seqL9 {t1 t2 t3 t4 t5 t6 t7 t8 t9 : TS} {D : Ends} {σ : St} {H : Hp} (h : let u9 : TS := t9; let u8 : TS := tSeq t8 u9; let u7 : TS := tSeq t7 u8; let u6 : TS := tSeq t6 u7; let u5 : TS := tSeq t5 u6; let u4 : TS := tSeq t4 u5; let u3 : TS := tSeq t3 u4; let u2 : TS := tSeq t2 u3; tSeq t1 u2 D σ H) : (tSeq t1 (tSeq t2 (tSeq t3 (tSeq t4 (tSeq t5 (tSeq t6 (tSeq t7 (tSeq t8 t9)))))))) D σ H := h
section
variable {P : Program} {w : World} {K : PySem.W.Frag} {mg : Str → Option Value} {base : Heap}
set_option maxHeartbeats 8000000 in
theorem ok_step {f : Addr} {fd : FuncData} (F : Fun K "step" "step" s_step f fd) (T : Txt K mg)  : FnOk P w K mg base CX0 1 f fd ["n", "one", "other"] (sp_step w K) := by
  refine F.ok sc_step (fun vs H Q E h => ?_) (fun cdv A outer s H vs Q E hr h => ?_)
  · obtain ⟨n, a, b, rfl, hn, q⟩ := h
    rfl
  · obtain ⟨n, a, b, rfl, hn, q⟩ := h
    refine ⟨_, (@pss_one _ _ _ (@ps_ret _ _ _ _ (@pe_op _ _ _ _ _ _ _ _ op_mod (@pe_op _ _ _ _ _ _ _ _ op_sub (pv 2) (pv 1)) (pv 0)))), ?_⟩
    set_option simprocs false in try dsimp only [cxOf, Cx.nox, Cx.wish]
    exact ⟨_, rfl, _, rfl, _, _, rfl, rfl, _, rfl, _, _, rfl, rfl, hn, q⟩
set_option maxHeartbeats 8000000 in
theorem ok_distance {f : Addr} {fd : FuncData} (F : Fun K "distance" "distance" s_distance f fd) (T : Txt K mg) (C_step : Has P w K mg base 1 "step" ["n", "one", "other"] (sp_step w K)) : FnOk P w K mg base CX0 2 f fd ["n", "one", "other"] (sp_distance w K) := by
  refine F.ok sc_distance (fun vs H Q E h => ?_) (fun cdv A outer s H vs Q E hr h => ?_)
  · obtain ⟨n, a, b, rfl, hn, q⟩ := h
    rfl
  · obtain ⟨n, a, b, rfl, hn, q⟩ := h
    refine ⟨_, (@pss_one _ _ _ (@ps_ret _ _ _ _ (pe_callB (call_min2 rfl) (by rfl) T.b_min PyProof.Rows.boot_min (@pa_cons _ _ _ _ _ (@pe_callH _ _ _ _ _ _ _ _ _ _ C_step (hr.mono (by decide)) rfl (@pa_cons _ _ _ _ _ (pv 0) (@pa_cons _ _ _ _ _ (pv 1) (@pa_cons _ _ _ _ _ (pv 2) pa_nil (by rfl)) (by rfl)) (by rfl)) (by decide) (by rfl) (by rfl)) (@pa_cons _ _ _ _ _ (@pe_callH _ _ _ _ _ _ _ _ _ _ C_step (hr.mono (by decide)) rfl (@pa_cons _ _ _ _ _ (pv 0) (@pa_cons _ _ _ _ _ (pv 2) (@pa_cons _ _ _ _ _ (pv 1) pa_nil (by rfl)) (by rfl)) (by rfl)) (by decide) (by rfl) (by rfl)) pa_nil (by rfl)) (by rfl))))), ?_⟩
    set_option simprocs false in try dsimp only [cxOf, Cx.nox, Cx.wish]
    exact ⟨_, rfl, _, rfl, _, rfl, n, a, b, rfl, hn, _, rfl, _, rfl, _, rfl, n, b, a, rfl, hn, _, _, rfl, q⟩
set_option maxHeartbeats 8000000 in
theorem ok_done {f : Addr} {fd : FuncData} (F : Fun K "done" "done" s_done f fd) (T : Txt K mg)  : FnOk P w K mg base CX0 1 f fd ["n", "change", "tone"] (sp_done w K) := by
  refine F.ok sc_done (fun vs H Q E h => ?_) (fun cdv A outer s H vs Q E hr h => ?_)
  · obtain ⟨n, p, t, m, x, rfl, hn, hp, q⟩ := h
    rfl
  · obtain ⟨n, p, t, m, x, rfl, hn, hp, q⟩ := h
    refine ⟨_, (@pss_cons _ _ _ _ _ (@ps_if _ _ _ _ _ _ _ _ (@pt_cmpR _ _ _ _ _ _ _ _ op_eq (@pe_ix _ _ _ _ _ _ _ ix_tup (pv 1) pe_int (fun _ _ => rfl)) pe_str (nomark _))
        (@pss_one _ _ _ (@ps_ret _ _ _ _ (@pe_op _ _ _ _ _ _ _ _ op_mod (@pe_op _ _ _ _ _ _ _ _ op_add (pv 2) (@pe_ix _ _ _ _ _ _ _ ix_tup (pv 1) pe_int (fun _ _ => rfl))) (pv 0))))
        pss_nil)
      (@pss_one _ _ _ (@ps_ret _ _ _ _ (@pe_op _ _ _ _ _ _ _ _ op_mod (@pe_op _ _ _ _ _ _ _ _ op_sub (@pe_ix _ _ _ _ _ _ _ ix_tup (pv 1) pe_int (fun _ _ => rfl)) (pv 2)) (pv 0))))), ?_⟩
    set_option simprocs false in try dsimp only [cxOf, Cx.nox, Cx.wish]
    refine ⟨_, rfl, p, _, _, _, rfl, rfl, SqT.of hp, rfl, rfl, _, rfl, ?_⟩
    rw [kS_turn t]
    cases t with
    | true => exact ifp rfl ⟨_, rfl, _, rfl, p, _, _, _, rfl, rfl, SqT.of hp, rfl, _, _, rfl, rfl, _, rfl, _, _, rfl, rfl, hn, q⟩
    | false => exact ifn rfl ⟨_, rfl, p, _, _, _, rfl, rfl, SqT.of hp, rfl, _, rfl, _, _, rfl, rfl, _, rfl, _, _, rfl, rfl, hn, q⟩
set_option maxHeartbeats 8000000 in
theorem ok_changes {f : Addr} {fd : FuncData} (F : Fun K "changes" "changes" s_changes f fd) (T : Txt K mg)  : FnOk P w K mg base CX0 1 f fd ["n"] (sp_changes w K) := by
  refine F.ok sc_changes (fun vs H Q E h => ?_) (fun cdv A outer s H vs Q E hr h => ?_)
  · obtain ⟨n, rfl, n3, n24, q⟩ := h
    rfl
  · obtain ⟨n, rfl, n3, n24, q⟩ := h
    refine ⟨_, (@pss_cons _ _ _ _ _ (ps_setC (i := 1) sc_changes.nd rfl rfl (ys := []) (js := []) ⟨by rfl, of_decide_eq_true (by kernel_rfl), of_decide_eq_true (by kernel_rfl), by rfl, of_decide_eq_true (by kernel_rfl), of_decide_eq_true (by kernel_rfl), by rfl, of_decide_eq_true (by kernel_rfl)⟩ rfl (pi_range1 rfl T.b_range (@pa_cons _ _ _ _ _ (pv 0) pa_nil (by rfl))) (fun _ _ _ _ _ => pts_nil) (fun _ _ _ _ _ => (@pe_tup _ _ _ _ _ (@pa_cons _ _ _ _ _ pe_str (@pa_cons _ _ _ _ _ (pv 0) pa_nil (by rfl)) (by rfl)))))
      (@pss_cons _ _ _ _ _ (ps_setC (i := 2) sc_changes.nd rfl rfl (ys := []) (js := []) ⟨by rfl, of_decide_eq_true (by kernel_rfl), of_decide_eq_true (by kernel_rfl), by rfl, of_decide_eq_true (by kernel_rfl), of_decide_eq_true (by kernel_rfl), by rfl, of_decide_eq_true (by kernel_rfl)⟩ rfl (pi_range1 rfl T.b_range (@pa_cons _ _ _ _ _ (pv 0) pa_nil (by rfl))) (fun _ _ _ _ _ => pts_nil) (fun _ _ _ _ _ => (@pe_tup _ _ _ _ _ (@pa_cons _ _ _ _ _ pe_str (@pa_cons _ _ _ _ _ (pv 0) pa_nil (by rfl)) (by rfl)))))
      (@pss_one _ _ _ (@ps_ret _ _ _ _ (@pe_op _ _ _ _ _ _ _ _ op_cat (pv 1) (pv 2)))))), ?_⟩
    set_option simprocs false in try dsimp only [cxOf, Cx.nox, Cx.wish]
    refine seqL3 ?_
    intro u3 u2
    have hsz : (rng n).length ≤ sizeLine := by rw [rng_len]; exact Nat.le_trans (show n.toNat ≤ 24 by omega) (by decide)
    have one : ∀ (k : Bool) (js : List Nat) (σ : St) (H0 : Hp) (Fin : Addr → Hp → Prop), (∀ D ws H', H0 D = none → Same H0 H' → H' D = some (.lst ws) → Paired (ChgR H') ws ((rng n).map fun i => (k, i)) → Fin D H') →
        CompBy js tAll (tTup (tCons (tC (.str (kS k))) (tCons (tVar 0) tNil))) σ (Itr 0 n.toNat) H0 Fin := by
      intro k js σ H0 Fin hF
      refine comp_grow (rng n) V.int (fun _ => true) (fun i => (k, i)) ChgR (fun _ _ _ _ t r => r.mono t) (it_range H0 0 n.toNat) (fun b H' _ _ Q2 h => h H' (Same.refl _)) (fun b H' _ _ _ Q2 h => ?_) hsz (fun D ws H' hD sm hL pr => ?_)
      · exact ⟨_, rfl, two_fit, fun r h0 => h _ _ (Same.new h0) ⟨r, rfl, upd_same⟩⟩
      · rw [filter_all] at pr
        exact hF D ws H' hD sm hL pr
    refine ⟨_, rfl, n, rfl, by omega, by omega, one true _ _ _ _ fun D ws H1 hD s1 hL p1 => ?_⟩
    refine ⟨_, rfl, n, rfl, by omega, by omega, one false _ _ _ _ fun D2 ws2 H2 hD2 s2 hL2 p2 => ?_⟩
    have e1 := prd_len p1
    have e2 := prd_len p2
    rw [List.length_map, rng_len] at e1 e2
    refine ⟨_, rfl, _, rfl, D, D2, ws, ws2, rfl, rfl, s2 _ _ hL, hL2, Nat.le_trans (show ws.length + ws2.length ≤ 48 by omega) (by decide), fun r h0 => ?_⟩
    have s3 := Same.new (o := .lst (ws ++ ws2)) h0
    refine q r _ _ ((s1.trans s2).free h0) ((s1.trans s2).trans s3) upd_same (prd_append ?_ ?_)
    · exact prd_imp (fun x y r => r.mono (s2.trans s3).tk) p1
    · exact prd_imp (fun x y r => r.mono s3.tk) p2
set_option maxHeartbeats 8000000 in
theorem ok_crowd_of {f : Addr} {fd : FuncData} (F : Fun K "crowd_of" "crowd_of" s_crowd_of f fd) (T : Txt K mg)  : FnOk P w K mg base CX0 1 f fd ["n", "numbers"] (sp_crowd_of w K) := by
  refine F.ok sc_crowd_of (fun vs H Q E h => ?_) (fun cdv A outer s H vs Q E hr h => ?_)
  · obtain ⟨n, p, ns, rfl, hS, n0, n24, hl, q⟩ := h
    rfl
  · obtain ⟨n, p, ns, rfl, hS, n0, n24, hl, q⟩ := h
    refine ⟨_, (@pss_one _ _ _ (@ps_ret _ _ _ _ (pe_callTy call_tuple_of (by rfl) T.b_tuple PyProof.Rows.boot_tuple (@pa_cons _ _ _ _ _ (pe_callB (call_sorted_i rfl) (by rfl) T.b_sorted PyProof.Rows.boot_sorted (@pa_cons _ _ _ _ _ (pe_callTy (call_set_l rfl) (by rfl) T.b_set PyProof.Rows.boot_set (@pa_cons _ _ _ _ _ (pe_comp (ys := ["n"]) (js := [0]) ⟨by rfl, of_decide_eq_true (by kernel_rfl), of_decide_eq_true (by kernel_rfl), by rfl, of_decide_eq_true (by kernel_rfl), of_decide_eq_true (by kernel_rfl), by rfl, of_decide_eq_true (by kernel_rfl)⟩ rfl (pi_both (pv 1)) (fun _ _ _ _ _ => pts_nil) (fun _ _ _ _ _ => (@pe_op _ _ _ _ _ _ _ _ op_mod (pv 0) (pv 1)))) pa_nil (by rfl))) pa_nil (by rfl))) pa_nil (by rfl))))), ?_⟩
    set_option simprocs false in try dsimp only [cxOf, Cx.nox, Cx.wish]
    rcases hS with hS | hS
    · refine ⟨_, rfl, p, rfl, .inl ⟨⟨_, hS⟩, comp_int ns V.int (fun _ => true) (· % n) (it_list ns V.int hS) (fun b H' _ _ Q2 h => h H' (Same.refl _)) (fun b H' _ _ _ Q2 h => ⟨_, rfl, _, rfl, _, _, rfl, rfl, n0, h H' (Same.refl _)⟩) (fit1000 hl) fun D H1 hD s1 hL => ?_⟩⟩
      rw [filter_all] at hL
      refine ⟨D, ns.map (· % n), rfl, SqL.of hL, by rw [List.length_map]; omega, fun q1 h1 => ?_⟩
      have hb : ∀ x ∈ ns.map (· % n), 0 ≤ x ∧ x < n := fun x hx => by
        obtain ⟨y, _, rfl⟩ := List.mem_map.mp hx
        exact ⟨mod_lo y n0, mod_hi y n0⟩
      have small : ((ns.map (· % n)).foldl STab.addI []).length < 64 := by
        have nd : ((ns.map (· % n)).foldl STab.addI []).Nodup := STab.nodup_adds List.nodup_nil
        have sub : ((ns.map (· % n)).foldl STab.addI []).length ≤ (rng n).length := by
          refine nodup_len nd fun x hx => ?_
          rw [STab.mem_adds] at hx
          rcases hx with hx | hx
          · exact rng_mem.mpr (hb x hx)
          · cases hx
        rw [rng_len] at sub
        omega
      refine ⟨q1, _, rfl, small, .inr (.inr upd_same), fun l ls l0 pm pw => ?_⟩
      have e := set_sorted pm pw hb
      subst e
      refine ⟨l, _, rfl, .inl ⟨SqL.of upd_same, fun r r0 => ?_⟩⟩
      exact q r _ (((s1.trans (Same.new h1)).trans (Same.new l0)).trans (Same.new r0)) upd_same
    · refine ⟨_, rfl, p, rfl, .inr ⟨⟨_, hS⟩, comp_int ns V.int (fun _ => true) (· % n) (it_tup ns V.int hS) (fun b H' _ _ Q2 h => h H' (Same.refl _)) (fun b H' _ _ _ Q2 h => ⟨_, rfl, _, rfl, _, _, rfl, rfl, n0, h H' (Same.refl _)⟩) (fit1000 hl) fun D H1 hD s1 hL => ?_⟩⟩
      rw [filter_all] at hL
      refine ⟨D, ns.map (· % n), rfl, SqL.of hL, by rw [List.length_map]; omega, fun q1 h1 => ?_⟩
      have hb : ∀ x ∈ ns.map (· % n), 0 ≤ x ∧ x < n := fun x hx => by
        obtain ⟨y, _, rfl⟩ := List.mem_map.mp hx
        exact ⟨mod_lo y n0, mod_hi y n0⟩
      have small : ((ns.map (· % n)).foldl STab.addI []).length < 64 := by
        have nd : ((ns.map (· % n)).foldl STab.addI []).Nodup := STab.nodup_adds List.nodup_nil
        have sub : ((ns.map (· % n)).foldl STab.addI []).length ≤ (rng n).length := by
          refine nodup_len nd fun x hx => ?_
          rw [STab.mem_adds] at hx
          rcases hx with hx | hx
          · exact rng_mem.mpr (hb x hx)
          · cases hx
        rw [rng_len] at sub
        omega
      refine ⟨q1, _, rfl, small, .inr (.inr upd_same), fun l ls l0 pm pw => ?_⟩
      have e := set_sorted pm pw hb
      subst e
      refine ⟨l, _, rfl, .inl ⟨SqL.of upd_same, fun r r0 => ?_⟩⟩
      exact q r _ (((s1.trans (Same.new h1)).trans (Same.new l0)).trans (Same.new r0)) upd_same

set_option maxHeartbeats 8000000 in
theorem ok_changed {f : Addr} {fd : FuncData} (F : Fun K "changed" "changed" s_changed f fd) (T : Txt K mg) (C_crowd_of : Has P w K mg base 1 "crowd_of" ["n", "numbers"] (sp_crowd_of w K)) (C_done : Has P w K mg base 1 "done" ["n", "change", "tone"] (sp_done w K)) : FnOk P w K mg base CX0 2 f fd ["n", "crowd", "change"] (sp_changed w K) := by
  refine F.ok sc_changed (fun vs H Q E h => ?_) (fun cdv A outer s H vs Q E hr h => ?_)
  · obtain ⟨n, p, cs, c, t, m, rfl, hS, hc, n0, n24, hl, q⟩ := h
    rfl
  · obtain ⟨n, p, cs, c, t, m, rfl, hS, hc, n0, n24, hl, q⟩ := h
    refine ⟨_, (@pss_one _ _ _ (@ps_ret _ _ _ _ (@pe_callH _ _ _ _ _ _ _ _ _ _ C_crowd_of (hr.mono (by decide)) rfl (@pa_cons _ _ _ _ _ (pv 0) (@pa_cons _ _ _ _ _ (pe_comp (ys := ["n", "change"]) (js := [0, 2]) ⟨by rfl, of_decide_eq_true (by kernel_rfl), of_decide_eq_true (by kernel_rfl), by rfl, of_decide_eq_true (by kernel_rfl), of_decide_eq_true (by kernel_rfl), by rfl, of_decide_eq_true (by kernel_rfl)⟩ rfl (pi_tup (pv 1)) (fun _ _ _ _ _ => pts_nil) (fun _ _ _ _ _ => (@pe_callH _ _ _ _ _ _ _ _ _ _ C_done (hr.mono (by decide)) rfl (@pa_cons _ _ _ _ _ (pv 1) (@pa_cons _ _ _ _ _ (pv 2) (@pa_cons _ _ _ _ _ (pv 0) pa_nil (by rfl)) (by rfl)) (by rfl)) (by decide) (by rfl) (by rfl)))) pa_nil (by rfl)) (by rfl)) (by decide) (by rfl) (by rfl)))), ?_⟩
    set_option simprocs false in try dsimp only [cxOf, Cx.nox, Cx.wish]
    refine ⟨_, rfl, _, rfl, p, rfl, ⟨_, hS⟩, comp_int cs V.int (fun _ => true) (dn n t m) (it_tup cs V.int hS) (fun b H' _ _ Q2 h => h H' (Same.refl _)) (fun b H' _ _ s Q2 h => ⟨_, rfl, _, rfl, _, rfl, n, c, t, m, b, rfl, n0, s _ _ hc, h H' (Same.refl _)⟩) (fit1000 hl) fun D H1 hD s1 hL => ?_⟩
    rw [filter_all] at hL
    refine ⟨n, D, cs.map (dn n t m), rfl, .inl (SqL.of hL), n0, n24, by rw [List.length_map]; exact hl, fun r H2 s2 h2 => ?_⟩
    have e : (cs.map (dn n t m)).map (· % n) = cs.map (dn n t m) := by
      rw [List.map_map]
      refine List.map_congr_left fun x _ => ?_
      exact Int.emod_eq_of_lt (dn_lo n0 t m x) (dn_hi n0 t m x)
    rw [e] at h2
    exact q r H2 (s1.trans s2) h2
set_option maxHeartbeats 8000000 in
theorem ok_distances {f : Addr} {fd : FuncData} (F : Fun K "distances" "distances" s_distances f fd) (T : Txt K mg) (C_distance : Has P w K mg base 2 "distance" ["n", "one", "other"] (sp_distance w K)) : FnOk P w K mg base CX0 3 f fd ["n", "crowd"] (sp_distances w K) := by
  refine F.ok sc_distances (fun vs H Q E h => ?_) (fun cdv A outer s H vs Q E hr h => ?_)
  · obtain ⟨n, p, cs, rfl, hp, n0, hl, q⟩ := h
    rfl
  · obtain ⟨n, p, cs, rfl, hp, n0, hl, q⟩ := h
    refine ⟨_, (@pss_cons _ _ _ _ _ (@ps_set _ _ 2 _ _ _ _ sc_distances.nd rfl (Or.inl rfl) (@pe_lst _ _ _ _ pa_nil) (by rfl) (by first | exact Or.inl rfl | exact Or.inr rfl))
      (@pss_cons _ _ _ _ _ (ps_for PassesOwn.never rfl (pi_enum rfl T.b_enumerate (pv 1)) (pg_tup rfl (pgs_cons (pg_name (i := 3) sc_distances.nd rfl (Or.inl rfl)) (pgs_cons (pg_name (i := 4) sc_distances.nd rfl (Or.inr rfl)) pgs_nil)))
        (@pss_one _ _ _ (ps_expr (pe_bm PySem.F.plainAttrs_list PySem.F.slot_list_extend PySem.F.type_list_extend mt_extend (pv 2) (@pa_cons _ _ _ _ _ (pe_comp (ys := ["n", "one"]) (js := [0, 4]) ⟨by rfl, of_decide_eq_true (by kernel_rfl), of_decide_eq_true (by kernel_rfl), by rfl, of_decide_eq_true (by kernel_rfl), of_decide_eq_true (by kernel_rfl), by rfl, of_decide_eq_true (by kernel_rfl)⟩ rfl (pi_tup (pe_slice sl_tupS (pv 1) po_none (po_some (pv 3)))) (fun _ _ _ _ _ => pts_nil) (fun _ _ _ _ _ => (@pe_callH _ _ _ _ _ _ _ _ _ _ C_distance (hr.mono (by decide)) rfl (@pa_cons _ _ _ _ _ (pv 1) (@pa_cons _ _ _ _ _ (pv 2) (@pa_cons _ _ _ _ _ (pv 0) pa_nil (by rfl)) (by rfl)) (by rfl)) (by decide) (by rfl) (by rfl)))) pa_nil (by rfl))))))
      (@pss_one _ _ _ (@ps_ret _ _ _ _ (pv 2))))), ?_⟩
    set_option simprocs false in try dsimp only [cxOf, Cx.nox, Cx.wish]
    refine seqL3 ?_
    intro u3 u2
    refine ⟨(by show 0 ≤ sizeLine; decide), fun L L0 => ?_⟩
    refine ⟨_, rfl, p, rfl, ⟨_, SqT.of (Same.new L0 _ _ hp)⟩, for_enum (xs := cs.map V.int) (fun i σ G => ∃ (v1 v2 : Option V) (ds : List Int), σ = [some (.int n), some (.ref p), some (.ref L), v1, v2] ∧ Same H G ∧ G L = some (.lst (ds.map V.int)) ∧ ds = ((List.range i).flatMap fun i => (cs.take i).map fun o => dist n (cs.getD i 0) o) ∧ ds.length ≤ 24 * i) ?_ ?_ ?_ ?_⟩
    · exact ⟨_, _, [], rfl, Same.new L0, upd_same, rfl, by decide⟩
    · rintro i σ G _ ⟨v1, v2, ds, rfl, sG, _⟩
      exact SqT.of (sG _ _ hp)
    · rintro i x σ G T hx ⟨v1, v2, ds, rfl, sG, hL, hd, ld⟩ hT
      have hi : i < cs.length := by
        have := (List.getElem?_eq_some_iff.mp hx).1
        rwa [List.length_map] at this
      have ex : x = .int (cs.getD i 0) := by
        rw [List.getElem?_map, List.getElem?_eq_getElem hi] at hx
        rw [List.getD_eq_getElem?_getD, List.getElem?_eq_getElem hi]
        exact (Option.some.inj hx).symm
      subst ex
      refine ⟨T, _, rfl, SqT.of upd_same, rfl, _, _, rfl, _, _, rfl, rfl, ?_⟩
      have sT : Same G (upd G T (.tup [.int (i : Int), .int (cs.getD i 0)])) := Same.new hT
      have hL1 := sT _ _ hL
      refine ⟨_, rfl, .inl ⟨rfl, _, SqL.of hL1⟩, _, rfl, _, rfl, (i : Int), rfl, p, _, rfl, sT _ _ (sG _ _ hp), fun p2 H3 s3 h3 => ?_⟩
      rw [cut_front, ← List.map_take] at h3
      have lt : (cs.take i).length ≤ 24 := by rw [List.length_take]; omega
      refine ⟨p2, rfl, ⟨_, SqT.of h3⟩, comp_int (cs.take i) V.int (fun _ => true) (fun o => dist n (cs.getD i 0) o) (it_tup (cs.take i) V.int (SqT.of h3)) (fun b H' _ _ Q2 h => h H' (Same.refl _)) (fun b H' _ _ s Q2 h => ⟨_, rfl, _, rfl, _, rfl, n, _, b, rfl, n0, h H' (Same.refl _)⟩) (fit1000 (by omega)) fun D H4 hD s4 hD4 => ?_⟩
      rw [filter_all] at hD4
      have ln : ((cs.take i).map fun o => dist n (cs.getD i 0) o).length ≤ 24 := by rw [List.length_map]; exact lt
      refine ⟨L, D, _, _, rfl, rfl, s4 _ _ (s3 _ _ hL1), hD4, ?_, ?_⟩
      · rw [List.length_map, List.length_map]; exact fit1000 (by omega)
      · refine ⟨_, _, ds ++ (cs.take i).map fun o => dist n (cs.getD i 0) o, rfl, ?_, ?_, ?_, ?_⟩
        · exact (((sG.trans sT).trans s3).trans s4).upd L0
        · rw [upd_same, List.map_append]
        · rw [hd, List.range_succ, List.flatMap_append]
          simp
        · rw [List.length_append]; omega
    · rintro σ G ⟨v1, v2, ds, rfl, sG, hL, hd, ld⟩
      refine ⟨_, rfl, q L G L0 sG ?_⟩
      rw [hL, hd, List.length_map]
      rfl
set_option maxHeartbeats 8000000 in
theorem ok_counts {f : Addr} {fd : FuncData} (F : Fun K "counts" "counts" s_counts f fd) (T : Txt K mg) (C_distances : Has P w K mg base 3 "distances" ["n", "crowd"] (sp_distances w K)) : FnOk P w K mg base CX0 4 f fd ["n", "crowd"] (sp_counts w K) := by
  refine F.ok sc_counts (fun vs H Q E h => ?_) (fun cdv A outer s H vs Q E hr h => ?_)
  · obtain ⟨n, p, cs, rfl, hp, n0, n24, hl, q⟩ := h
    rfl
  · obtain ⟨n, p, cs, rfl, hp, n0, n24, hl, q⟩ := h
    refine ⟨_, (@pss_cons _ _ _ _ _ (@ps_set _ _ 2 _ _ _ _ sc_counts.nd rfl (Or.inr rfl) (@pe_callH _ _ _ _ _ _ _ _ _ _ C_distances (hr.mono (by decide)) rfl (@pa_cons _ _ _ _ _ (pv 0) (@pa_cons _ _ _ _ _ (pv 1) pa_nil (by rfl)) (by rfl)) (by decide) (by rfl) (by rfl)) (by rfl) (by first | exact Or.inl rfl | exact Or.inr rfl))
      (@pss_one _ _ _ (@ps_ret _ _ _ _ (pe_callTy call_tuple_of (by rfl) T.b_tuple PyProof.Rows.boot_tuple (@pa_cons _ _ _ _ _ (pe_comp (ys := ["found"]) (js := [2]) ⟨by rfl, of_decide_eq_true (by kernel_rfl), of_decide_eq_true (by kernel_rfl), by rfl, of_decide_eq_true (by kernel_rfl), of_decide_eq_true (by kernel_rfl), by rfl, of_decide_eq_true (by kernel_rfl)⟩ rfl (pi_range2 rfl T.b_range (@pa_cons _ _ _ _ _ pe_int (@pa_cons _ _ _ _ _ (@pe_op _ _ _ _ _ _ _ _ op_add (@pe_op _ _ _ _ _ _ _ _ op_fdiv (pv 0) pe_int) pe_int) pa_nil (by rfl)) (by rfl))) (fun _ _ _ _ _ => pts_nil) (fun _ _ _ _ _ => (kpe_bm (K := K) rfl PySem.F.plainAttrs_list PySem.F.slot_list_count PySem.F.type_list_count (kmt_count (K := K) rfl) (pv 1) (@pa_cons _ _ _ _ _ (pv 0) pa_nil (by rfl))))) pa_nil (by rfl)))))), ?_⟩
    set_option simprocs false in try dsimp only [cxOf, Cx.nox, Cx.wish]
    refine ⟨_, rfl, _, rfl, n, p, cs, rfl, hp, n0, hl, fun L H1 L0 s1 h1 => ?_⟩
    refine ⟨_, rfl, _, _, rfl, rfl, ⟨by decide, by decide⟩, _, _, rfl, rfl, 1, n / 2 + 1, rfl, ⟨by decide, by decide, by omega, by omega⟩, comp_int (rngL 1 (n / 2 + 1)) V.int (fun _ => true) (fun d => (((dists n cs).count d : Nat) : Int)) (it_range H1 1 (n / 2 + 1 - 1).toNat) (fun b H' _ _ Q2 h => h H' (Same.refl _)) (fun b H' _ _ s Q2 h => ⟨_, rfl, .inl ⟨rfl, _, SqL.of (s _ _ h1)⟩, _, rfl, L, dists n cs, b, rfl, rfl, SqL.of (s _ _ h1), h H' (Same.refl _)⟩) ?_ fun D H2 hD s2 h2 => ?_⟩
    · unfold rngL; rw [List.length_map, List.length_range]; exact fit1000 (by omega)
    · rw [filter_all] at h2
      have e : ((rngL 1 (n / 2 + 1)).map fun d => (((dists n cs).count d : Nat) : Int)) = cnts n cs := by
        unfold rngL cnts cntL
        rw [List.map_map]
        rfl
      rw [e] at h2
      exact ⟨D, _, rfl, .inl ⟨SqL.of h2, fun r r0 => q r _ ((s1.trans s2).trans (Same.new r0)) upd_same⟩⟩
set_option maxHeartbeats 8000000 in
theorem ok_ways {f : Addr} {fd : FuncData} (F : Fun K "ways" "ways" s_ways f fd) (T : Txt K mg) (C_changed : Has P w K mg base 2 "changed" ["n", "crowd", "change"] (sp_changed w K)) (C_changes : Has P w K mg base 1 "changes" ["n"] (sp_changes w K)) : FnOk P w K mg base CX0 3 f fd ["n", "one", "other"] (sp_ways w K) := by
  refine F.ok sc_ways (fun vs H Q E h => ?_) (fun cdv A outer s H vs Q E hr h => ?_)
  · obtain ⟨n, p, cs, p', ds, rfl, hS, hS', n3, n24, hl, q⟩ := h
    rfl
  · obtain ⟨n, p, cs, p', ds, rfl, hS, hS', n3, n24, hl, q⟩ := h
    refine ⟨_, (@pss_one _ _ _ (@ps_ret _ _ _ _ (pe_comp (ys := ["other", "n", "one"]) (js := [2, 0, 1]) ⟨by rfl, of_decide_eq_true (by kernel_rfl), of_decide_eq_true (by kernel_rfl), by rfl, of_decide_eq_true (by kernel_rfl), of_decide_eq_true (by kernel_rfl), by rfl, of_decide_eq_true (by kernel_rfl)⟩ rfl (pi_list (@pe_callH _ _ _ _ _ _ _ _ _ _ C_changes (hr.mono (by decide)) rfl (@pa_cons _ _ _ _ _ (pv 0) pa_nil (by rfl)) (by decide) (by rfl) (by rfl))) (fun _ _ _ _ _ => (pts_one (@pt_cmpR _ _ _ _ _ _ _ _ (kop_eqT (K := K) rfl hr.units0) (@pe_callH _ _ _ _ _ _ _ _ _ _ C_changed (hr.mono (by decide)) rfl (@pa_cons _ _ _ _ _ (pv 2) (@pa_cons _ _ _ _ _ (pv 3) (@pa_cons _ _ _ _ _ (pv 0) pa_nil (by rfl)) (by rfl)) (by rfl)) (by decide) (by rfl) (by rfl)) (pv 1) (nomark _)))) (fun _ _ _ _ _ => (pv 0))))), ?_⟩
    set_option simprocs false in try dsimp only [cxOf, Cx.nox, Cx.wish]
    refine ⟨_, rfl, n, rfl, n3, n24, fun l ws H1 l0 s1 h1 pr => ?_⟩
    refine ⟨l, rfl, ⟨_, SqL.of h1⟩, comp_prd ws (allC n) ChgR (fun c => decide (img n c.1 c.2 cs = ds)) id ChgR (fun _ _ _ _ t r => r.mono t) (fun _ _ _ _ t r => r.mono t) (SqL.of h1) pr (fun v c H' hc r s Q2 h => ?_) (fun v c H' hc r hp s Q2 h => ⟨_, rfl, h _ H' (Same.refl _) r⟩) (by rw [allC_len]; exact fit1000 (by omega)) fun D us H2 hD s2 hL pr2 => ?_⟩
    · obtain ⟨pc, rfl, hpc⟩ := r
      refine ⟨_, rfl, _, rfl, _, rfl, n, p, cs, pc, c.1, c.2, rfl, (s1.trans s).seqT hS, hpc, by omega, n24, hl, fun r H3 s3 h3 => ?_⟩
      refine ⟨_, rfl, r, p', _, _, rfl, rfl, SqT.of h3, ((s1.trans s).trans s3).seqT hS', plain_ints _, plain_ints _, _, rfl, ?_⟩
      show Q2 (decide ((img n c.1 c.2 cs).map V.int = ds.map V.int)) H3
      rw [dec_ints]
      exact h H3 s3
    · rw [List.map_id] at pr2
      exact q D us H2 (s1.free hD) (s1.trans s2) hL pr2
set_option maxHeartbeats 8000000 in
theorem ok_images {f : Addr} {fd : FuncData} (F : Fun K "images" "images" s_images f fd) (T : Txt K mg) (C_changed : Has P w K mg base 2 "changed" ["n", "crowd", "change"] (sp_changed w K)) (C_changes : Has P w K mg base 1 "changes" ["n"] (sp_changes w K)) : FnOk P w K mg base CX0 3 f fd ["n", "crowd"] (sp_images w K) := by
  refine F.ok sc_images (fun vs H Q E h => ?_) (fun cdv A outer s H vs Q E hr h => ?_)
  · obtain ⟨n, p, cs, rfl, hS, n3, n24, ht, q⟩ := h
    rfl
  · obtain ⟨n, p, cs, rfl, hS, n3, n24, ht, q⟩ := h
    refine ⟨_, (@pss_one _ _ _ (@ps_ret _ _ _ _ (pe_callB (call_sorted_T rfl) (by rfl) T.b_sorted PyProof.Rows.boot_sorted (@pa_cons _ _ _ _ _ (pe_callTy (call_set_T rfl hr.units) (by rfl) T.b_set PyProof.Rows.boot_set (@pa_cons _ _ _ _ _ (pe_comp (ys := ["n", "crowd"]) (js := [0, 1]) ⟨by rfl, of_decide_eq_true (by kernel_rfl), of_decide_eq_true (by kernel_rfl), by rfl, of_decide_eq_true (by kernel_rfl), of_decide_eq_true (by kernel_rfl), by rfl, of_decide_eq_true (by kernel_rfl)⟩ rfl (pi_list (@pe_callH _ _ _ _ _ _ _ _ _ _ C_changes (hr.mono (by decide)) rfl (@pa_cons _ _ _ _ _ (pv 0) pa_nil (by rfl)) (by decide) (by rfl) (by rfl))) (fun _ _ _ _ _ => pts_nil) (fun _ _ _ _ _ => (@pe_callH _ _ _ _ _ _ _ _ _ _ C_changed (hr.mono (by decide)) rfl (@pa_cons _ _ _ _ _ (pv 1) (@pa_cons _ _ _ _ _ (pv 2) (@pa_cons _ _ _ _ _ (pv 0) pa_nil (by rfl)) (by rfl)) (by rfl)) (by decide) (by rfl) (by rfl)))) pa_nil (by rfl))) pa_nil (by rfl))))), ?_⟩
    set_option simprocs false in try dsimp only [cxOf, Cx.nox, Cx.wish]
    have n0 : 0 < n := by omega
    have hl := ht.len
    refine ⟨_, rfl, n, rfl, n3, n24, fun l ws H1 l0 s1 h1 pr => ?_⟩
    refine ⟨l, rfl, ⟨_, SqL.of h1⟩, comp_prd ws (allC n) ChgR (fun _ => true) (fun c => img n c.1 c.2 cs) TupR (fun _ _ _ _ t r => r.mono t) (fun _ _ _ _ t r => r.mono t) (SqL.of h1) pr (fun v c H' hc r s Q2 h => h H' (Same.refl _)) (fun v c H' hc r hpt s Q2 h => ?_) (by rw [allC_len]; exact fit1000 (by omega)) fun D us0 H2 hD s2 hL pr2 => ?_⟩
    · obtain ⟨pc, rfl, hpc⟩ := r
      exact ⟨_, rfl, _, rfl, _, rfl, n, p, cs, pc, c.1, c.2, rfl, (s1.trans s).seqT hS, hpc, n0, n24, by omega, fun r H3 s3 h3 => h _ H3 s3 ⟨r, rfl, h3⟩⟩
    rw [filter_all] at pr2
    obtain ⟨us, rfl, e, hts⟩ := prd_us pr2
    obtain ⟨b1, b2, b3, b4⟩ := set_us n0 n24 ht e
    refine ⟨D, us, rfl, SqL.of hL, hts, b4, fun q1 h5 => ?_⟩
    have hts2 : TupsAt H2 (us.foldl STab.addT []) := fun u hu => by
      rcases STab.adds_mem us [] hu with z | z
      · exact hts u z
      · cases z
    refine ⟨q1, _, rfl, upd_same, same_tups (Same.new h5) hts2, b1, b2, b3, fun l2 us' l20 pm lx => ?_⟩
    have sa := s1.trans s2
    refine q l2 us' _ ((sa.trans (Same.new h5)).free l20) ((sa.trans (Same.new h5)).trans (Same.new l20)) upd_same (fun u hu => Same.new l20 _ _ (Same.new h5 _ _ (hts2 u (pm.mem_iff.mp hu)))) (imgs_of e pm lx)
set_option maxHeartbeats 8000000 in
theorem ok_least_form {f : Addr} {fd : FuncData} (F : Fun K "least_form" "least_form" s_least_form f fd) (T : Txt K mg) (C_images : Has P w K mg base 3 "images" ["n", "crowd"] (sp_images w K)) : FnOk P w K mg base CX0 4 f fd ["n", "crowd"] (sp_least_form w K) := by
  refine F.ok sc_least_form (fun vs H Q E h => ?_) (fun cdv A outer s H vs Q E hr h => ?_)
  · obtain ⟨n, p, cs, rfl, hS, n3, n24, ht, q⟩ := h
    rfl
  · obtain ⟨n, p, cs, rfl, hS, n3, n24, ht, q⟩ := h
    refine ⟨_, (@pss_one _ _ _ (@ps_ret _ _ _ _ (@pe_ix _ _ _ _ _ _ _ ix_list (@pe_callH _ _ _ _ _ _ _ _ _ _ C_images (hr.mono (by decide)) rfl (@pa_cons _ _ _ _ _ (pv 0) (@pa_cons _ _ _ _ _ (pv 1) pa_nil (by rfl)) (by rfl)) (by decide) (by rfl) (by rfl)) pe_int (fun _ _ => rfl)))), ?_⟩
    set_option simprocs false in try dsimp only [cxOf, Cx.nox, Cx.wish]
    refine ⟨_, rfl, _, rfl, n, p, cs, rfl, hS, n3, n24, ht, fun l us H1 l0 s1 h1 hts im => ?_⟩
    obtain ⟨k, L', e, lst⟩ := im.least (by omega) ht
    cases us with
    | nil => cases e
    | cons u us =>
      have ek : u.1 = k := (List.cons.inj e).1
      refine ⟨l, _, _, _, rfl, rfl, SqL.of h1, atI_nat (j := 0) (v := V.ref u.2) (by unfold refsV; rfl), q k lst u.2 H1 s1 ?_⟩
      rw [← ek]
      exact hts u (List.mem_cons_self ..)
set_option maxHeartbeats 8000000 in
theorem ok_Keeper___init__ {f : Addr} {fd : FuncData} (F : Fun K "__init__" "Keeper.__init__" s_Keeper___init__ f fd) (T : Txt K mg)  : FnOk P w K mg base CX0 1 f fd ["self", "n"] (sp_Keeper___init__ w K) := by
  refine F.ok sc_Keeper___init__ (fun vs H Q E h => ?_) (fun cdv A outer s H vs Q E hr h => ?_)
  · obtain ⟨p, n, rfl, hi, q⟩ := h
    rfl
  · obtain ⟨p, n, rfl, hi, q⟩ := h
    refine ⟨_, (@pss_cons _ _ _ _ _ (ps_fldN T.c_Keeper (List.Mem.head _) (pv 0) (pv 1) rfl)
      (@pss_cons _ _ _ _ _ (ps_fldN T.c_Keeper (List.Mem.tail _ (List.Mem.head _)) (pv 0) (pe_lstG pa_nil) rfl)
      (@pss_cons _ _ _ _ _ (ps_fldN T.c_Keeper (List.Mem.tail _ (List.Mem.tail _ (List.Mem.head _))) (pv 0) (pe_lstG pa_nil) rfl)
      (@pss_cons _ _ _ _ _ (ps_fldN T.c_Keeper (List.Mem.tail _ (List.Mem.tail _ (List.Mem.tail _ (List.Mem.head _)))) (pv 0) pe_xnilG rfl)
      (@pss_one _ _ _ (ps_fldN T.c_Keeper (List.Mem.tail _ (List.Mem.tail _ (List.Mem.tail _ (List.Mem.tail _ (List.Mem.head _))))) (pv 0) pe_nnilG rfl)))))), ?_⟩
    set_option simprocs false in try dsimp only [cxOf, Cx.nox, Cx.wish]
    refine seqL5 ?_
    intro u5 u4 u3 u2
    have l1 := length_putF "n" (.int n) []
    have nn : ∀ {G : Hp} {fs : List (Str × V)} {b : Addr}, Ins K "Keeper" G p fs → G b = none → b ≠ p := fun i h e => by
      obtain ⟨C, dx, _, z⟩ := i
      rw [e, z] at h
      cases h
    refine ⟨_, rfl, _, rfl, p, [], rfl, hi, (by show 0 < 1000; decide), fun H1 v1 i1 => ?_⟩
    refine ⟨(by show 0 ≤ sizeLine; decide), fun lc H2 s2 lc0 hlc => ⟨_, rfl, p, _, rfl, i1.same s2, (by have : ([] : List (Str × V)).length = 0 := rfl; omega), fun H3 v3 i3 => ?_⟩⟩
    have l3 := length_putF "crowds" (.ref lc) (putF "n" (.int n) [])
    refine ⟨(by show 0 ≤ sizeLine; decide), fun lr H4 s4 lr0 hlr => ⟨_, rfl, p, _, rfl, i3.same s4, (by have : ([] : List (Str × V)).length = 0 := rfl; omega), fun H5 v5 i5 => ?_⟩⟩
    have l5 := length_putF "rolls" (.ref lr) (putF "crowds" (.ref lc) (putF "n" (.int n) []))
    refine fun dk H6 s6 dk0 hdk => ⟨_, rfl, p, _, rfl, i5.same s6, (by have : ([] : List (Str × V)).length = 0 := rfl; omega), fun H7 v7 i7 => ?_⟩
    have l7 := length_putF "kinds" (.ref dk) (putF "rolls" (.ref lr) (putF "crowds" (.ref lc) (putF "n" (.int n) [])))
    refine fun dg H8 s8 dg0 hdg => ⟨_, rfl, p, _, rfl, i7.same s8, (by have : ([] : List (Str × V)).length = 0 := rfl; omega), fun H9 v9 i9 => ?_⟩
    have n1 := nn i1 lc0
    have n3 := nn i3 lr0
    have n5 := nn i5 dk0
    have n7 := nn i7 dg0
    have V13 : Save p H1 H3 := (Save.same s2).trans v3
    have V35 : Save p H3 H5 := (Save.same s4).trans v5
    have V57 : Save p H5 H7 := (Save.same s6).trans v7
    have V79 : Save p H7 H9 := (Save.same s8).trans v9
    have g3 := v3 lc _ n1 hlc
    have g5 := v5 lr _ n3 hlr
    have g7 := v7 dk _ n5 hdk
    have g9 := v9 dg _ n7 hdg
    have ne1 : lc ≠ lr := fun e => by rw [e, lr0] at g3; cases g3
    have ne2 : dk ≠ dg := fun e => by rw [e, dg0] at g7; cases g7
    refine q lc lr dk dg H9 (((v1.trans V13).trans V35).trans (V57.trans V79)) (sv_free v1 lc0 n1) (sv_free (v1.trans V13) lr0 n3) (sv_free ((v1.trans V13).trans V35) dk0 n5) (sv_free (((v1.trans V13).trans V35).trans V57) dg0 n7) ?_
    refine ⟨i9, ⟨[], V79 _ _ n1 (V57 _ _ n1 (V35 _ _ n1 g3)), .nil⟩, V79 _ _ n3 (V57 _ _ n3 g5), fun i a h => by simp at h, rfl, ⟨[], V79 _ _ n5 g7, (fun q hq => nomatch hq), rfl⟩, ⟨[], g9, (fun q hq => nomatch hq), rfl, rfl⟩, fun i a h => by simp at h, rfl, List.nodup_nil, List.nodup_nil, ne2, ?_⟩
    rw [List.append_nil, List.nodup_cons]
    exact ⟨fun z => ne1 (List.mem_singleton.mp z), by simp⟩
set_option maxHeartbeats 8000000 in
theorem ok_Keeper_new_kind {f : Addr} {fd : FuncData} (F : Fun K "new_kind" "Keeper.new_kind" s_Keeper_new_kind f fd) (T : Txt K mg) (C_counts : Has P w K mg base 4 "counts" ["n", "crowd"] (sp_counts w K)) : FnOk P w K mg base CX0 5 f fd ["self", "form"] (sp_Keeper_new_kind w K) := by
  refine F.ok sc_Keeper_new_kind (fun vs H Q E h => ?_) (fun cdv A outer s H vs Q E hr h => ?_)
  · obtain ⟨a, f, p, n, cr, fm, rl, gr, lc, lr, dk, dg, ra, ga, rfl, kp, ha, hf, hn, n24, f24, lrf, fm1, gr1, gq1, q⟩ := h
    rfl
  · obtain ⟨a, f, p, n, cr, fm, rl, gr, lc, lr, dk, dg, ra, ga, rfl, kp, ha, hf, hn, n24, f24, lrf, fm1, gr1, gq1, q⟩ := h
    refine ⟨_, (@pss_cons _ _ _ _ _ (@ps_set _ _ 2 _ _ _ _ sc_Keeper_new_kind.nd rfl (Or.inl rfl) (pe_callB call_len_seq (by rfl) T.b_len PySem.boot_len (@pa_cons _ _ _ _ _ (pe_fldN T.c_Keeper (List.Mem.tail _ (List.Mem.tail _ (List.Mem.head _))) (pv 0) rfl) pa_nil (by rfl))) (by rfl) (by first | exact Or.inl rfl | exact Or.inr rfl))
      (@pss_cons _ _ _ _ _ (ps_xputG (units1 hr) (pe_fldN T.c_Keeper (List.Mem.tail _ (List.Mem.tail _ (List.Mem.tail _ (List.Mem.head _)))) (pv 0) rfl) (pv 1) (pv 2) rfl)
      (@pss_cons _ _ _ _ _ (ps_expr (pe_bm PySem.F.plainAttrs_list PySem.F.slot_list_append PySem.F.type_list_append mt_appendG (pe_fldN T.c_Keeper (List.Mem.tail _ (List.Mem.tail _ (List.Mem.head _))) (pv 0) rfl) (@pa_cons _ _ _ _ _ (pe_lstG pa_nil) pa_nil (by rfl))))
      (@pss_one _ _ _ (ps_expr (pe_bm PySem.F.plainAttrs_list PySem.F.slot_list_append PySem.F.type_list_append mt_appendG (pe_setdefG (units2 hr) (pe_fldN T.c_Keeper (List.Mem.tail _ (List.Mem.tail _ (List.Mem.tail _ (List.Mem.tail _ (List.Mem.head _))))) (pv 0) rfl) (@pa_cons _ _ _ _ _ (pe_tupG (@pa_cons _ _ _ _ _ (pe_callB call_len_seq (by rfl) T.b_len PySem.boot_len (@pa_cons _ _ _ _ _ (pv 1) pa_nil (by rfl))) (@pa_cons _ _ _ _ _ (@pe_callH _ _ _ _ _ _ _ _ _ _ C_counts (hr.mono (by decide)) rfl (@pa_cons _ _ _ _ _ (pe_fldN T.c_Keeper (List.Mem.head _) (pv 0) rfl) (@pa_cons _ _ _ _ _ (pv 1) pa_nil (by rfl)) (by rfl)) (by decide) (by rfl) (by rfl)) pa_nil (by rfl)) (by rfl))) (@pa_cons _ _ _ _ _ (pe_lstG pa_nil) pa_nil (by rfl)) (by rfl))) (@pa_cons _ _ _ _ _ (pv 2) pa_nil (by rfl)))))))), ?_⟩
    set_option simprocs false in try dsimp only [cxOf, Cx.nox, Cx.wish]
    refine seqL4 ?_
    intro u4 u3 u2
    have ap := kp.apart
    obtain ⟨wc, hc, prc⟩ := kp.c1
    obtain ⟨kvs, hk, kt, ek⟩ := kp.k1
    obtain ⟨gvs, hg, gt, eg1, eg2⟩ := kp.g1
    have lra : (ra.map V.ref).length = fm.length := by rw [List.length_map, kp.rlen, lrf]
    have lkv : kvs.length = fm.length := by
      have := congrArg List.length ek
      unfold kvF at this
      rwa [List.length_map, List.length_map, List.length_range] at this
    have lgv : gvs.length = gr.length := by
      have := congrArg List.length eg1
      rwa [List.length_map, List.length_map] at this
    refine ⟨_, rfl, p, _, _, rfl, kp.ins, kfs_rolls _ _ _ _ _, lr, _, rfl, .inl (SqL.of kp.r1), ?_⟩
    refine ⟨_, rfl, _, rfl, p, _, _, rfl, kp.ins, kfs_kinds _ _ _ _ _, _, rfl, dk, a, f.map Sum.inl, kvs, rfl, rfl, hk, kt.ok, SqT.of (by rw [inl_map]; exact ha), (by rw [lkv]; exact small1000 (by omega)), fun H1 v1 h1 => ?_⟩
    rw [putX_new (atX_no ek hf), lra] at h1
    have i1 : Ins K "Keeper" H1 p (kfs n lc lr dk dg) := let ⟨C, dx, ic, e⟩ := kp.ins; ⟨C, dx, ic, v1 _ _ ap.pk e⟩
    have r1 := v1 _ _ ap.rk kp.r1
    refine ⟨_, rfl, p, _, _, rfl, i1, kfs_rolls _ _ _ _ _, .inl ⟨rfl, _, SqL.of r1⟩, (by show 0 ≤ sizeLine; decide), fun ln H2 s2 ln0 hln => ⟨lr, _, _, rfl, rfl, s2 _ _ r1, (by rw [lra]; exact small1000 (by omega)), fun H3 v3 h3 => ?_⟩⟩
    have i3 : Ins K "Keeper" H3 p (kfs n lc lr dk dg) := let ⟨C, dx, ic, e⟩ := i1; ⟨C, dx, ic, v3 _ _ ap.pr (s2 _ _ e)⟩
    have nak : a ≠ dk := ne_of ha hk (fun z => nomatch z)
    have nar : a ≠ lr := ne_of ha kp.r1 (fun z => nomatch z)
    have a3 := v3 _ _ nar (s2 _ _ (v1 _ _ nak ha))
    have g3 := v3 _ _ (Ne.symm ap.rg) (s2 _ _ (v1 _ _ (Ne.symm ap.kg) hg))
    refine ⟨_, rfl, p, _, _, rfl, i3, kfs_groups _ _ _ _ _, dg, gvs, rfl, g3, _, rfl, a, _, rfl, .inr (SqT.of a3), _, rfl, p, _, _, rfl, i3, kfs_n _ _ _ _ _, _, rfl, n, a, f, rfl, a3, hn, n24, f24, fun c H4 s4 hc4 => ⟨two_fit, fun b H5 s5 hb => ⟨(by show 0 ≤ sizeLine; decide), fun lg H6 s6 lg0 hlg => ?_⟩⟩⟩
    have s36 := (s4.trans s5).trans s6
    -- what is kept up to here
    have k06 : ∀ x o, x ≠ dk → x ≠ lr → H x = some o → H6 x = some o := fun x o n1 n2 e => s36 _ _ (v3 _ _ n2 (s2 _ _ (v1 _ _ n1 e)))
    have tk06 : TupKeep H H6 := fun x xs e => k06 x _ (ne_of e hk (fun z => nomatch z)) (ne_of e kp.r1 (fun z => nomatch z)) e
    have hdk6 := s36 _ _ (v3 _ _ (Ne.symm ap.rk) (s2 _ _ h1))
    have hlr6 := s36 _ _ h3
    have hdg6 := s36 _ _ g3
    have nln : H ln = none := by
      have : ln ≠ dk := fun e => by rw [e, h1] at ln0; cases ln0
      exact sv_free v1 ln0 this
    have nlr : ln ≠ lr := fun e => by rw [e, r1] at ln0; cases ln0
    have hln6 := s36 _ _ (v3 _ _ nlr hln)
    have nestb : NestR H6 b (keyO n f) := ⟨c, by
      have e := s6 _ _ hb
      rw [List.length_map] at e
      exact e, by
      have e := (s5.trans s6) _ _ hc4
      show _ = some (HO.tup (((cnts n f).map Sum.inl).map kV))
      rw [inl_map]
      exact e⟩
    have kvs2 : KeysT H6 (kvs ++ [(f.map Sum.inl, a, V.int (fm.length : Int))]) := fun q hq => by
      rcases List.mem_append.mp hq with z | z
      · exact kt.tk tk06 q z
      · rw [List.mem_singleton.mp z, inl_map]
        exact tk06 _ _ ha
    have ek2 : ((kvs ++ [(f.map Sum.inl, a, V.int (fm.length : Int))]).map fun (q : List Key × Addr × V) => (q.1, q.2.2)) = kvF (fm ++ [f]) := by rw [List.map_append, ek, kvF_snoc]; rfl
    have fnd2 : (fm ++ [f]).Nodup := by
      rw [List.nodup_append]
      refine ⟨kp.fnd, by simp, fun u hu v hv e => hf ?_⟩
      rw [← List.mem_singleton.mp hv, ← e]
      exact hu
    have rm : ∀ {x : Addr}, x ∈ ra → x ∈ ra ++ ga := fun h => List.mem_append_left _ h
    have gm : ∀ {x : Addr}, x ∈ ga → x ∈ ra ++ ga := fun h => List.mem_append_right _ h
    have lnn : ∀ x o, H x = some o → ln ≠ x := fun x o e z => by rw [← z, nln] at e; cases e
    have ndra : (lc :: lr :: ((ra ++ [ln]) ++ ga)).Nodup := by
      have nd := kp.nd
      have pm : (lc :: lr :: ((ra ++ [ln]) ++ ga)).Perm (ln :: lc :: lr :: (ra ++ ga)) := by
        have e1 : ((ra ++ [ln]) ++ ga).Perm (ln :: (ra ++ ga)) := by
          rw [List.append_assoc]
          exact List.perm_middle
        exact ((e1.cons lr).cons lc).trans ((List.Perm.cons lc (List.Perm.swap ln lr _)).trans (List.Perm.swap ln lc _))
      rw [pm.nodup_iff, List.nodup_cons]
      refine ⟨fun z => ?_, nd⟩
      rcases List.mem_cons.mp z with z | z
      · exact lnn _ _ hc z
      rcases List.mem_cons.mp z with z | z
      · exact lnn _ _ kp.r1 z
      · obtain ⟨xs, hx⟩ := kp.lst _ z
        exact lnn _ _ hx rfl
    have r2' : ∀ (G : Hp), (∀ x ∈ ra, ∀ o, H6 x = some o → G x = some o) → G ln = some (.lst []) → ∀ (i : Nat) (x : Addr), (ra ++ [ln])[i]? = some x → ∃ xs : List Int, (rl ++ [[]])[i]? = some xs ∧ G x = some (.lst (xs.map V.int)) := fun G kG hG i x h => by
      by_cases hi : i < ra.length
      · rw [List.getElem?_append_left hi] at h
        obtain ⟨xs, e1, e2⟩ := kp.r2 i x h
        have hm := List.mem_of_getElem? h
        refine ⟨xs, by rw [List.getElem?_append_left (by rw [← kp.rlen]; exact hi)]; exact e1, kG x hm _ (k06 _ _ (Ne.symm (ap.kl _ (rm hm))) (Ne.symm (ap.rl _ (rm hm))) e2)⟩
      · rw [List.getElem?_append_right (by omega)] at h
        have hi2 : i - ra.length = 0 := by
          have := (List.getElem?_eq_some_iff.mp h).1
          simp at this
          omega
        rw [hi2] at h
        cases h
        refine ⟨[], ?_, hG⟩
        rw [List.getElem?_append_right (by have := kp.rlen; omega), ← kp.rlen, hi2]
        rfl
    have ins6 : Ins K "Keeper" H6 p (kfs n lc lr dk dg) := i3.same s36
    have c6 : H6 lc = some (.lst wc) := k06 _ _ ap.ck ap.cr hc
    have lrw : ra.map V.ref ++ [V.ref ln] = (ra ++ [ln]).map V.ref := by rw [List.map_append]; rfl
    rw [lrw] at hlr6
    have outs6 : Outs (ftA lc lr dk dg ra ga) H H6 := fun x o nx e => k06 x o (fun z => nx (by rw [z]; simp)) (fun z => nx (by rw [z]; simp)) e
    refine ⟨b, keyO n f, gvs, rfl, hdg6, gt.tk tk06, nestb, (by rw [lgv]; exact small1000 (by omega)), fun u hu => ?_, fun hno H7 v7 h7 => ?_⟩
    · -- the group is there
      obtain ⟨i, g, qq, hgi, hqi, ekq, rfl⟩ := atN_at eg1 eg2 hu
      obtain ⟨q', e1, hgl⟩ := kp.g2 i g hgi
      rw [hqi] at e1
      cases e1
      have hgm := List.mem_of_getElem? hgi
      have hg6 := k06 _ _ (Ne.symm (ap.kl _ (gm hgm))) (Ne.symm (ap.rl _ (gm hgm))) hgl
      have lq := gq1 _ (List.mem_of_getElem? hqi)
      refine ⟨.inl ⟨rfl, _, SqL.of hg6⟩, _, rfl, g, _, _, rfl, rfl, hg6, (by rw [List.length_map]; exact small1000 (by omega)), fun H8 v8 h8 => ?_⟩
      have k08 : ∀ x o, x ≠ dk → x ≠ lr → x ≠ g → H x = some o → H8 x = some o := fun x o n1 n2 n3 e => v8 _ _ n3 (k06 x o n1 n2 e)
      have tk68 : TupKeep H6 H8 := fun x xs e => v8 _ _ (ne_of e hg6 (fun z => nomatch z)) e
      have ngr : ∀ x ∈ ra, x ≠ g := fun x hx e => by
        have nd := (List.nodup_cons.mp (List.nodup_cons.mp kp.nd).2).2
        exact (List.nodup_append.mp nd).2.2 x hx g hgm e
      have gnl : ln ≠ g := lnn _ _ hgl
      have eadd : gAdd gr (keyO n f) (fm.length : Int) = gr.set i (qq.1, qq.2 ++ [(fm.length : Int)]) := by
        rw [← ekq]
        exact map_at kp.gnd hqi _
      refine q (ra ++ [ln]) ga H8 (outs6.trans (Outs.save (by simp [hgm]) v8)) (fun x hx => ?_) (tk06.trans tk68) ?_
      · rcases List.mem_append.mp hx with z | z
        · rcases List.mem_append.mp z with z | z
          · exact .inl (rm z)
          · rw [List.mem_singleton.mp z]
            exact .inr nln
        · exact .inl (gm z)
      have gnd2 : ((gr.set i (qq.1, qq.2 ++ [(fm.length : Int)])).map (·.1)) = gr.map (·.1) := by
        rw [List.map_set]
        refine List.ext_getElem? fun j => ?_
        rw [List.getElem?_set]
        split
        · next e =>
          subst e
          have hl := (List.getElem?_eq_some_iff.mp hqi).1
          rw [List.length_map, if_pos hl, List.getElem?_map, hqi]
          rfl
        · rfl
      rw [eadd]
      refine ⟨let ⟨C, dx, ic, e⟩ := ins6; ⟨C, dx, ic, v8 _ _ (ap.pl _ (gm hgm)) e⟩, ⟨wc, v8 _ _ (ap.cl _ (gm hgm)) c6, prd_imp (fun _ _ r => r.mono (tk06.trans tk68)) prc⟩, v8 _ _ (ap.rl _ (gm hgm)) hlr6, r2' H8 (fun x hx o e => v8 _ _ (ngr x hx) e) (v8 _ _ gnl hln6), (by rw [List.length_append, List.length_append, kp.rlen]; rfl),
        ⟨_, v8 _ _ (ap.kl _ (gm hgm)) hdk6, kvs2.tk tk68, ek2⟩, ⟨gvs, v8 _ _ (ap.gl _ (gm hgm)) hdg6, (gt.tk tk06).tk tk68, by rw [gnd2]; exact eg1, eg2⟩, fun j x hj => ?_, (by rw [List.length_set]; exact kp.glen), (by rw [gnd2]; exact kp.gnd), fnd2, kp.kg, ndra⟩
      rw [List.getElem?_set]
      by_cases e : i = j
      · subst e
        rw [hgi] at hj
        cases hj
        refine ⟨_, by rw [if_pos rfl, if_pos (List.getElem?_eq_some_iff.mp hqi).1], ?_⟩
        rw [h8, lra, List.map_append]
        rfl
      · obtain ⟨q2, f1, f2⟩ := kp.g2 j x hj
        have hxm := List.mem_of_getElem? hj
        have nxg : x ≠ g := fun z => e (by
          have nd := (List.nodup_append.mp (List.nodup_cons.mp (List.nodup_cons.mp kp.nd).2).2).2.1
          refine (List.getElem?_inj (List.getElem?_eq_some_iff.mp hgi).1 nd).mp ?_
          rw [hgi, hj, z])
        exact ⟨q2, by rw [if_neg e]; exact f1, k08 _ _ (Ne.symm (ap.kl _ (gm hxm))) (Ne.symm (ap.rl _ (gm hxm))) nxg f2⟩
    · -- a new group
      have nlg6 : lg ≠ dg := fun e => by
        have := (s4.trans s5) _ _ g3
        rw [← e, lg0] at this
        cases this
      have hlg7 := v7 _ _ nlg6 hlg
      refine ⟨.inl ⟨rfl, _, SqL.of hlg7⟩, _, rfl, lg, _, _, rfl, rfl, hlg7, (by show 0 < sizeLine; decide), fun H8 v8 h8 => ?_⟩
      have old5 : ∀ x o, H5 x = some o → x ≠ lg := fun x o e z => by rw [z, lg0] at e; cases e
      have old : ∀ x o, x ≠ dk → x ≠ lr → H x = some o → x ≠ lg := fun x o n1 n2 e => old5 x o ((s4.trans s5) _ _ (v3 _ _ n2 (s2 _ _ (v1 _ _ n1 e))))
      have nlg : H lg = none := by
        cases e : H lg with
        | none => rfl
        | some o =>
          have n1 : lg ≠ dk := fun z => by
            have h5 := (s4.trans s5) _ _ (v3 _ _ (Ne.symm ap.rk) (s2 _ _ h1))
            rw [← z, lg0] at h5
            cases h5
          have n2 : lg ≠ lr := fun z => by
            have h5 := (s4.trans s5) _ _ h3
            rw [← z, lg0] at h5
            cases h5
          exact absurd rfl (old lg o n1 n2 e)
      have dkl : dk ≠ lg := old5 _ _ ((s4.trans s5) _ _ (v3 _ _ (Ne.symm ap.rk) (s2 _ _ h1)))
      have lrl : lr ≠ lg := old5 _ _ ((s4.trans s5) _ _ h3)
      have lnl : ln ≠ lg := old5 _ _ ((s4.trans s5) _ _ (v3 _ _ nlr hln))
      have k68 : ∀ x o, x ≠ dg → x ≠ lg → H6 x = some o → H8 x = some o := fun x o n1 n2 e => v8 _ _ n2 (v7 _ _ n1 e)
      have k08 : ∀ x o, x ≠ dk → x ≠ lr → x ≠ dg → H x = some o → H8 x = some o := fun x o n1 n2 n3 e => k68 x o n3 (old x o n1 n2 e) (k06 x o n1 n2 e)
      have tk68 : TupKeep H6 H8 := fun x xs e => k68 _ _ (ne_of e hdg6 (fun z => nomatch z)) (ne_of e hlg (fun z => nomatch z)) e
      have knot := atN_no eg1 hno
      have eadd : gAdd gr (keyO n f) (fm.length : Int) = gr ++ [(keyO n f, [(fm.length : Int)])] := by
        unfold gAdd
        rw [if_neg knot]
      have lgn : ∀ x o, H x = some o → lg ≠ x := fun x o e z => by rw [← z, nlg] at e; cases e
      have pl : p ≠ lg := fun z => by
        obtain ⟨C, dx, ic, e⟩ := i3
        exact old5 _ _ ((s4.trans s5) _ _ e) z
      refine q (ra ++ [ln]) (ga ++ [lg]) H8 (fun x o nx e => k08 x o (fun z => nx (by rw [z]; simp)) (fun z => nx (by rw [z]; simp)) (fun z => nx (by rw [z]; simp)) e) (fun x hx => ?_) (tk06.trans tk68) ?_
      · rcases List.mem_append.mp hx with z | z
        · rcases List.mem_append.mp z with z | z
          · exact .inl (rm z)
          · rw [List.mem_singleton.mp z]
            exact .inr nln
        · rcases List.mem_append.mp z with z | z
          · exact .inl (gm z)
          · rw [List.mem_singleton.mp z]
            exact .inr nlg
      rw [eadd]
      refine ⟨let ⟨C, dx, ic, e⟩ := ins6; ⟨C, dx, ic, k68 _ _ ap.pg pl e⟩, ⟨wc, k68 _ _ ap.cg (Ne.symm (lgn _ _ hc)) c6, prd_imp (fun _ _ r => r.mono (tk06.trans tk68)) prc⟩, k68 _ _ ap.rg lrl hlr6, r2' H8 (fun x hx o e => ?_) (k68 _ _ (fun z => lnn _ _ hg z) lnl hln6), (by rw [List.length_append, List.length_append, kp.rlen]; rfl),
        ⟨_, k68 _ _ ap.kg dkl hdk6, kvs2.tk tk68, ek2⟩, ⟨gvs ++ [(keyO n f, b, V.ref lg)], v8 _ _ (Ne.symm nlg6) h7, fun z hz => ?_, by rw [List.map_append, List.map_append, eg1]; rfl, by rw [List.map_append, List.map_append, eg2]; rfl⟩, fun j x hj => ?_, (by rw [List.length_append, List.length_append, kp.glen]; rfl), ?_, fnd2, kp.kg, ?_⟩
      · obtain ⟨xs, hx2⟩ := kp.lst _ (rm hx)
        exact k68 _ _ (Ne.symm (ap.gl _ (rm hx))) (Ne.symm (lgn _ _ hx2)) e
      · rcases List.mem_append.mp hz with y | y
        · exact ((gt.tk tk06).tk tk68) z y
        · rw [List.mem_singleton.mp y]
          exact nestb.tk tk68
      · by_cases hjl : j < ga.length
        · rw [List.getElem?_append_left hjl] at hj
          obtain ⟨q2, f1, f2⟩ := kp.g2 j x hj
          have hxm := List.mem_of_getElem? hj
          refine ⟨q2, by rw [List.getElem?_append_left (by rw [← kp.glen]; exact hjl)]; exact f1, k08 _ _ (Ne.symm (ap.kl _ (gm hxm))) (Ne.symm (ap.rl _ (gm hxm))) (Ne.symm (ap.gl _ (gm hxm))) f2⟩
        · rw [List.getElem?_append_right (by omega)] at hj
          have hj2 : j - ga.length = 0 := by
            have := (List.getElem?_eq_some_iff.mp hj).1
            simp at this
            omega
          rw [hj2] at hj
          cases hj
          refine ⟨(keyO n f, [(fm.length : Int)]), ?_, ?_⟩
          · rw [List.getElem?_append_right (by have := kp.glen; omega), ← kp.glen, hj2]
            rfl
          · rw [h8, lra]
            rfl
      · rw [List.map_append, List.nodup_append]
        refine ⟨kp.gnd, by simp, fun u hu v hv e => knot ?_⟩
        have : v = keyO n f := by simpa using hv
        rw [← this, ← e]
        exact hu
      · have pm : (lc :: lr :: ((ra ++ [ln]) ++ (ga ++ [lg]))).Perm (lg :: lc :: lr :: ((ra ++ [ln]) ++ ga)) := by
          have e1 : ((ra ++ [ln]) ++ (ga ++ [lg])).Perm (lg :: ((ra ++ [ln]) ++ ga)) := by
            rw [← List.append_assoc]
            exact List.perm_append_singleton lg _
          exact ((e1.cons lr).cons lc).trans ((List.Perm.cons lc (List.Perm.swap lg lr _)).trans (List.Perm.swap lg lc _))
        rw [pm.nodup_iff, List.nodup_cons]
        refine ⟨fun z => ?_, ndra⟩
        rcases List.mem_cons.mp z with z | z
        · exact lgn _ _ hc z
        rcases List.mem_cons.mp z with z | z
        · exact lgn _ _ kp.r1 z
        rcases List.mem_append.mp z with z | z
        · rcases List.mem_append.mp z with z | z
          · obtain ⟨xs, hx⟩ := kp.lst _ (rm z)
            exact lgn _ _ hx rfl
          · exact lnl (List.mem_singleton.mp z).symm
        · obtain ⟨xs, hx⟩ := kp.lst _ (gm z)
          exact lgn _ _ hx rfl
set_option maxHeartbeats 8000000 in
theorem ok_Keeper_kind_of {f : Addr} {fd : FuncData} (F : Fun K "kind_of" "Keeper.kind_of" s_Keeper_kind_of f fd) (T : Txt K mg) (C_Keeper_new_kind : HasM P w K mg base CX0 5 "Keeper" "new_kind" ["self", "form"] (sp_Keeper_new_kind w K)) (C_least_form : Has P w K mg base 4 "least_form" ["n", "crowd"] (sp_least_form w K)) : FnOk P w K mg base CX0 6 f fd ["self", "crowd"] (sp_Keeper_kind_of w K) := by
  refine F.ok sc_Keeper_kind_of (fun vs H Q E h => ?_) (fun cdv A outer s H vs Q E hr h => ?_)
  · obtain ⟨a, cs, p, n, cr, fm, rl, gr, lc, lr, dk, dg, ra, ga, rfl, kp, ha, ht, n3, n24, lrf, fm1, gr1, gq1, q⟩ := h
    rfl
  · obtain ⟨a, cs, p, n, cr, fm, rl, gr, lc, lr, dk, dg, ra, ga, rfl, kp, ha, ht, n3, n24, lrf, fm1, gr1, gq1, q⟩ := h
    refine ⟨_, (@pss_cons _ _ _ _ _ (@ps_set _ _ 2 _ _ _ _ sc_Keeper_kind_of.nd rfl (Or.inl rfl) (@pe_callH _ _ _ _ _ _ _ _ _ _ C_least_form (hr.mono (by decide)) rfl (@pa_cons _ _ _ _ _ (pe_fldN T.c_Keeper (List.Mem.head _) (pv 0) rfl) (@pa_cons _ _ _ _ _ (pv 1) pa_nil (by rfl)) (by rfl)) (by decide) (by rfl) (by rfl)) (by rfl) (by first | exact Or.inl rfl | exact Or.inr rfl))
      (@pss_cons _ _ _ _ _ (@ps_if _ _ _ _ _ _ _ _ (pt_cmp (pc_xnotin (units1 hr) (pv 2) (pe_fldN T.c_Keeper (List.Mem.tail _ (List.Mem.tail _ (List.Mem.tail _ (List.Mem.head _)))) (pv 0) rfl)))
        (@pss_one _ _ _ (ps_expr (pe_methN C_Keeper_new_kind (hr.mono (by decide)) pass0 (pv 0) (@pa_cons _ _ _ _ _ (pv 2) pa_nil (by rfl)))))
        pss_nil)
      (@pss_one _ _ _ (@ps_ret _ _ _ _ (pe_xget (units1 hr) (pe_fldN T.c_Keeper (List.Mem.tail _ (List.Mem.tail _ (List.Mem.tail _ (List.Mem.head _)))) (pv 0) rfl) (pv 2) (fun _ _ => rfl)))))), ?_⟩
    set_option simprocs false in try dsimp only [cxOf, Cx.nox, Cx.wish]
    refine seqL3 ?_
    intro u3 u2
    have hn : 0 < n := by omega
    refine ⟨_, rfl, p, _, _, rfl, kp.ins, kfs_n _ _ _ _ _, _, rfl, n, a, cs, rfl, SqT.of ha, n3, n24, ht, fun f lst r H1 s1 h1 => ?_⟩
    have kp1 := kp.same s1
    have ap := kp.apart
    obtain ⟨kvs, hk, kt, ek⟩ := kp1.k1
    have f24 := lst.tones.len
    have hkey : SqT K H1 r ((f.map Sum.inl).map kV) := SqT.of (by rw [inl_map]; exact h1)
    have new : ∀ b : Addr, H1 b = none → H b = none := fun b h => s1.free h
    refine ⟨_, rfl, _, rfl, p, _, _, rfl, kp1.ins, kfs_kinds _ _ _ _ _, dk, r, f.map Sum.inl, kvs, rfl, rfl, hk, kt.ok, hkey, _, rfl, ?_⟩
    by_cases hf : f ∈ fm
    · obtain ⟨k, hk1, ek1⟩ := List.getElem_of_mem hf
      have hfk : fm[k]? = some f := by rw [List.getElem?_eq_getElem hk1, ek1]
      have av := atX_at ek kp.fnd hfk
      refine ifn (by rw [av]; rfl) ?_
      exact ⟨_, rfl, p, _, _, rfl, kp1.ins, kfs_kinds _ _ _ _ _, _, rfl, dk, r, f.map Sum.inl, kvs, _, rfl, rfl, hk, kt.ok, hkey, av, q f k fm rl gr ra ga H1 lst hfk (.inl ⟨hf, rfl, rfl, rfl⟩) (Outs.same s1) (fun b hb => .inl hb) s1.tk kp1⟩
    · have av := atX_no ek hf
      refine ifp (by rw [av]; rfl) ?_
      refine ⟨_, rfl, p, _, rfl, kp1.ins, kfs_new_kind _ _ _ _ _, _, rfl, r, f, p, n, cr, fm, rl, gr, lc, lr, dk, dg, ra, ga, rfl, kp1, h1, hf, hn, n24, by omega, lrf, fm1, gr1, gq1, fun ra' ga' H2 o2 n2 t2 kp2 => ?_⟩
      obtain ⟨kvs2, hk2, kt2, ek2⟩ := kp2.k1
      have hfk : (fm ++ [f])[fm.length]? = some f := by simp
      have hkey2 : SqT K H2 r ((f.map Sum.inl).map kV) := SqT.of (by rw [inl_map]; exact t2 _ _ h1)
      exact ⟨_, rfl, p, _, _, rfl, kp2.ins, kfs_kinds _ _ _ _ _, _, rfl, dk, r, f.map Sum.inl, kvs2, _, rfl, rfl, hk2, kt2.ok, hkey2, atX_at ek2 kp2.fnd hfk, q f fm.length _ _ _ ra' ga' H2 lst hfk (.inr ⟨hf, rfl, rfl, rfl⟩) ((Outs.same s1).trans o2) (fun b hb => (n2 b hb).elim .inl fun z => .inr (new b z)) (s1.tk.trans t2) kp2⟩
set_option maxHeartbeats 8000000 in
theorem ok_Keeper_told {f : Addr} {fd : FuncData} (F : Fun K "told" "Keeper.told" s_Keeper_told f fd) (T : Txt K mg) (C_Keeper_kind_of : HasM P w K mg base CX0 6 "Keeper" "kind_of" ["self", "crowd"] (sp_Keeper_kind_of w K)) (C_crowd_of : Has P w K mg base 1 "crowd_of" ["n", "numbers"] (sp_crowd_of w K)) (C_ways : Has P w K mg base 3 "ways" ["n", "one", "other"] (sp_ways w K)) : FnOk P w K mg base CX0 7 f fd ["self", "crowd"] (sp_Keeper_told w K) := by
  refine F.ok sc_Keeper_told (fun vs H Q E h => ?_) (fun cdv A outer s H vs Q E hr h => ?_)
  · obtain ⟨a, cs, p, n, cr, lc, lr, dk, dg, ra, ga, rfl, kp, ha, ht, hcr, n3, n24, c90, q⟩ := h
    rfl
  · obtain ⟨a, cs, p, n, cr, lc, lr, dk, dg, ra, ga, rfl, kp, ha, ht, hcr, n3, n24, c90, q⟩ := h
    refine ⟨_, (@pss_cons _ _ _ _ _ (@ps_set _ _ 1 _ _ _ _ sc_Keeper_told.nd rfl (Or.inl rfl) (@pe_callH _ _ _ _ _ _ _ _ _ _ C_crowd_of (hr.mono (by decide)) rfl (@pa_cons _ _ _ _ _ (pe_fldN T.c_Keeper (List.Mem.head _) (pv 0) rfl) (@pa_cons _ _ _ _ _ (pv 1) pa_nil (by rfl)) (by rfl)) (by decide) (by rfl) (by rfl)) (by rfl) (by first | exact Or.inl rfl | exact Or.inr rfl))
      (@pss_cons _ _ _ _ _ (@ps_set _ _ 2 _ _ _ _ sc_Keeper_told.nd rfl (Or.inl rfl) (pe_methN C_Keeper_kind_of (hr.mono (by decide)) pass0 (pv 0) (@pa_cons _ _ _ _ _ (pv 1) pa_nil (by rfl))) (by rfl) (by first | exact Or.inl rfl | exact Or.inr rfl))
      (@pss_cons _ _ _ _ _ (ps_expr (pe_bm PySem.F.plainAttrs_list PySem.F.slot_list_append PySem.F.type_list_append mt_appendG (@pe_ix _ _ _ _ _ _ _ ix_list (pe_fldN T.c_Keeper (List.Mem.tail _ (List.Mem.tail _ (List.Mem.head _))) (pv 0) rfl) (pv 2) (fun _ _ => rfl)) (@pa_cons _ _ _ _ _ (pe_callB call_len_seq (by rfl) T.b_len PySem.boot_len (@pa_cons _ _ _ _ _ (pe_fldN T.c_Keeper (List.Mem.tail _ (List.Mem.head _)) (pv 0) rfl) pa_nil (by rfl))) pa_nil (by rfl))))
      (@pss_cons _ _ _ _ _ (ps_expr (pe_bm PySem.F.plainAttrs_list PySem.F.slot_list_append PySem.F.type_list_append mt_appendG (pe_fldN T.c_Keeper (List.Mem.tail _ (List.Mem.head _)) (pv 0) rfl) (@pa_cons _ _ _ _ _ (pv 1) pa_nil (by rfl))))
      (@pss_cons _ _ _ _ _ (@ps_set _ _ 3 _ _ _ _ sc_Keeper_told.nd rfl (Or.inl rfl) (@pe_ix _ _ _ _ _ _ _ ix_list (pe_fldN T.c_Keeper (List.Mem.tail _ (List.Mem.head _)) (pv 0) rfl) (@pe_ix _ _ _ _ _ _ _ ix_list (@pe_ix _ _ _ _ _ _ _ ix_list (pe_fldN T.c_Keeper (List.Mem.tail _ (List.Mem.tail _ (List.Mem.head _))) (pv 0) rfl) (pv 2) (fun _ _ => rfl)) pe_int (fun _ _ => rfl)) (fun _ _ => rfl)) (by rfl) (by first | exact Or.inl rfl | exact Or.inr rfl))
      (@pss_one _ _ _ (@ps_ret _ _ _ _ (pe_tupG (@pa_cons _ _ _ _ _ (pv 2) (@pa_cons _ _ _ _ _ (@pe_ix _ _ _ _ _ _ _ ix_list (@pe_callH _ _ _ _ _ _ _ _ _ _ C_ways (hr.mono (by decide)) rfl (@pa_cons _ _ _ _ _ (pe_fldN T.c_Keeper (List.Mem.head _) (pv 0) rfl) (@pa_cons _ _ _ _ _ (pv 3) (@pa_cons _ _ _ _ _ (pv 1) pa_nil (by rfl)) (by rfl)) (by rfl)) (by decide) (by rfl) (by rfl)) pe_int (fun _ _ => rfl)) pa_nil (by rfl)) (by rfl)))))))))), ?_⟩
    set_option simprocs false in try dsimp only [cxOf, Cx.nox, Cx.wish]
    refine seqL6 ?_
    intro u6 u5 u4 u3 u2
    have hn : 0 < n := by omega
    have lcs := ht.len
    refine ⟨_, rfl, p, _, _, rfl, kp.ins, kfs_n _ _ _ _ _, _, rfl, n, a, cs, rfl, .inr (SqT.of ha), hn, n24, by omega, fun c H1 s1 h1 => ?_⟩
    rw [crowd_self ht] at h1
    have kp1 := kp.same s1
    have l1 := fmO_len n cr
    have l2 := grF_len n (fmO n cr)
    have l3 : (rlO n cr).length = (fmO n cr).length := by unfold rlO; rw [List.length_map]
    refine ⟨_, rfl, p, _, rfl, kp1.ins, kfs_kind_of _ _ _ _ _, _, rfl, c, cs, p, n, cr, fmO n cr, rlO n cr, grF n (fmO n cr), lc, lr, dk, dg, ra, ga, rfl, kp1, h1, ht, n3, n24, l3, by omega, by omega, fun q hq => Nat.le_trans (l2.2 q hq) (by omega), fun f k fm' rl' gr' ra' ga' H2 lst hfk cas o2 n2 t2 kp2 => ?_⟩
    have ef := lf_eq lst
    subst ef
    have all : fm' = fmN n cr (lf n cs) ∧ rl' = rlN n cr (lf n cs) ∧ gr' = grF n (fmO n (cr ++ [cs])) := by
      rw [← fmN_is]
      unfold fmN rlN
      rcases cas with ⟨hf, e1, e2, e3⟩ | ⟨hf, e1, e2, e3⟩
      · rw [if_pos hf, if_pos hf]
        exact ⟨e1, e2, e3⟩
      · rw [if_neg hf, if_neg hf, grF_snoc]
        exact ⟨e1, e2, e3⟩
    obtain ⟨e1, e2, e3⟩ := all
    subst e1 e2 e3
    obtain ⟨xs, hxs, erl⟩ := rlO_snoc n cr cs hfk
    have ap := kp2.apart
    obtain ⟨wc, hc, prc⟩ := kp2.c1
    have lwc : wc.length = cr.length := prd_len prc
    have hkl : k < ra'.length := by
      have := (List.getElem?_eq_some_iff.mp hxs).1
      rw [kp2.rlen]
      exact this
    obtain ⟨rk, hrk⟩ : ∃ rk, ra'[k]? = some rk := ⟨_, List.getElem?_eq_getElem hkl⟩
    obtain ⟨xs2, g1, hrk2⟩ := kp2.r2 k rk hrk
    rw [hxs] at g1
    cases g1
    have rkm : rk ∈ ra' ++ ga' := List.mem_append_left _ (List.mem_of_getElem? hrk)
    have atk : atI (ra'.map V.ref) (k : Int) = some (.ref rk) := atI_nat (by rw [List.getElem?_map, hrk]; rfl)
    have lxs : xs.length ≤ 100 := by
      have e := rlO_snoc n cr cs hfk
      have : xs ∈ rlN n cr (lf n cs) := List.mem_of_getElem? hxs
      unfold rlN at this
      split at this
      · unfold rlO at this
        obtain ⟨g, _, rfl⟩ := List.mem_map.mp this
        have := grp_len (cr.map (lf n)) g
        rw [List.length_map] at this
        omega
      · rcases List.mem_append.mp this with z | z
        · unfold rlO at z
          obtain ⟨g, _, rfl⟩ := List.mem_map.mp z
          have := grp_len (cr.map (lf n)) g
          rw [List.length_map] at this
          omega
        · rw [List.mem_singleton.mp z]
          exact Nat.zero_le _
    refine ⟨_, rfl, p, _, _, rfl, kp2.ins, kfs_rolls _ _ _ _ _, _, rfl, lr, _, _, _, rfl, rfl, SqL.of kp2.r1, atk, .inl ⟨rfl, _, SqL.of hrk2⟩, _, rfl, p, _, _, rfl, kp2.ins, kfs_crowds _ _ _ _ _, lc, _, rfl, .inl (SqL.of hc), rk, _, _, rfl, rfl, hrk2, (by rw [List.length_map]; exact small1000 (by omega)), fun H3 v3 h3 => ?_⟩
    have i3 : Ins K "Keeper" H3 p (kfs n lc lr dk dg) := let ⟨C, dx, ic, e⟩ := kp2.ins; ⟨C, dx, ic, v3 _ _ (ap.pl _ rkm) e⟩
    have c3 := v3 _ _ (ap.cl _ rkm) hc
    refine ⟨_, rfl, p, _, _, rfl, i3, kfs_crowds _ _ _ _ _, .inl ⟨rfl, _, SqL.of c3⟩, _, rfl, lc, _, _, rfl, rfl, c3, (by rw [lwc]; exact small1000 (by omega)), fun H4 v4 h4 => ?_⟩
    have i4 : Ins K "Keeper" H4 p (kfs n lc lr dk dg) := let ⟨C, dx, ic, e⟩ := i3; ⟨C, dx, ic, v4 _ _ ap.pc e⟩
    have k24 : ∀ x o, x ≠ rk → x ≠ lc → H2 x = some o → H4 x = some o := fun x o n1 n2 e => v4 _ _ n2 (v3 _ _ n1 e)
    have t24 : TupKeep H2 H4 := fun x ys e => k24 _ _ (ne_of e hrk2 (fun z => nomatch z)) (ne_of e hc (fun z => nomatch z)) e
    have hrk4 := v4 _ _ (Ne.symm (ap.cl _ rkm)) h3
    have r4 := k24 _ _ (ap.rl _ rkm) (Ne.symm ap.cr) kp2.r1
    have hc4 := (t2.trans t24) _ _ h1
    have prc4 : Paired (TupR H4) (wc ++ [V.ref c]) (cr ++ [cs]) := prd_append (prd_imp (fun _ _ r => r.mono t24) prc) (.cons ⟨c, rfl, hc4⟩ .nil)
    have nd2 := (List.nodup_cons.mp (List.nodup_cons.mp kp2.nd).2).2
    have kp4 : KpT w K H4 p n (cr ++ [cs]) lc lr dk dg ra' ga' := by
      show KpA w K H4 p n (cr ++ [cs]) (fmO n (cr ++ [cs])) (rlO n (cr ++ [cs])) (grF n (fmO n (cr ++ [cs]))) lc lr dk dg ra' ga'
      rw [← fmN_is n cr cs] at kp2 ⊢
      refine ⟨i4, ⟨_, h4, prc4⟩, r4, fun i x hx => ?_, ?_, ?_, ?_, fun i x hx => ?_, kp2.glen, kp2.gnd, kp2.fnd, kp2.kg, kp2.nd⟩
      · rw [erl, List.getElem?_set]
        by_cases e : k = i
        · subst e
          rw [hrk] at hx
          cases hx
          refine ⟨_, by rw [if_pos rfl, if_pos (List.getElem?_eq_some_iff.mp hxs).1], ?_⟩
          rw [hrk4, lwc, List.map_append]
          rfl
        · obtain ⟨ys, f1, f2⟩ := kp2.r2 i x hx
          have hm := List.mem_of_getElem? hx
          have nx : x ≠ rk := fun z => e (by
            refine (List.getElem?_inj hkl (List.nodup_append.mp nd2).1).mp ?_
            rw [hrk, hx, z])
          exact ⟨ys, by rw [if_neg e]; exact f1, k24 _ _ nx (Ne.symm (ap.cl _ (List.mem_append_left _ hm))) f2⟩
      · rw [erl, List.length_set]
        exact kp2.rlen
      · obtain ⟨kvs, f1, f2, f3⟩ := kp2.k1
        exact ⟨kvs, k24 _ _ (ap.kl _ rkm) (Ne.symm ap.ck) f1, f2.tk t24, f3⟩
      · obtain ⟨gvs, f1, f2, f3, f4⟩ := kp2.g1
        exact ⟨gvs, k24 _ _ (ap.gl _ rkm) (Ne.symm ap.cg) f1, f2.tk t24, f3, f4⟩
      · obtain ⟨q2, f1, f2⟩ := kp2.g2 i x hx
        have hm := List.mem_of_getElem? hx
        have nx : x ≠ rk := fun z => (List.nodup_append.mp nd2).2.2 rk (List.mem_of_getElem? hrk) x hm z.symm
        exact ⟨q2, f1, k24 _ _ nx (Ne.symm (ap.cl _ (List.mem_append_right _ hm))) f2⟩
    -- the first crowd of that kind
    have egrp : xs ++ [(cr.length : Int)] = grp ((cr ++ [cs]).map (lf n)) (lf n cs) := by
      have a1 : (rlO n (cr ++ [cs]))[k]? = some (xs ++ [(cr.length : Int)]) := by
        rw [erl, List.getElem?_set, if_pos rfl, if_pos (List.getElem?_eq_some_iff.mp hxs).1]
      unfold rlO at a1
      rw [← fmN_is, List.getElem?_map, hfk] at a1
      exact (Option.some.inj a1).symm
    have hrk4' : H4 rk = some (.lst ((xs ++ [(cr.length : Int)]).map V.int)) := by rw [hrk4, lwc, List.map_append]; rfl
    obtain ⟨j0, hj0⟩ : ∃ j0 : Int, (xs ++ [(cr.length : Int)])[0]? = some j0 := ⟨_, List.getElem?_eq_getElem (by rw [List.length_append, List.length_singleton]; omega)⟩
    have hjm : j0 ∈ grp ((cr ++ [cs]).map (lf n)) (lf n cs) := by rw [← egrp]; exact List.mem_of_getElem? hj0
    obtain ⟨j, rfl, hj⟩ := grp_mem.mp hjm
    rw [List.getElem?_map] at hj
    cases hcj : (cr ++ [cs])[j]? with
    | none => rw [hcj] at hj; cases hj
    | some f0 =>
    rw [hcj] at hj
    have elf : lf n f0 = lf n cs := Option.some.inj hj
    have hf0 : Tones n f0 ∧ Least n f0 (lf n f0) := by
      rcases List.mem_append.mp (List.mem_of_getElem? hcj) with z | z
      · exact hcr f0 z
      · rw [List.mem_singleton.mp z]
        exact ⟨ht, lst⟩
    obtain ⟨x, hx, pj, rfl, hpj⟩ := prd_get prc4 hcj
    have at0 : atI ((xs ++ [(cr.length : Int)]).map V.int) 0 = some (.int (j : Int)) := atI_nat (j := 0) (by rw [List.getElem?_map, hj0]; rfl)
    have atj : atI (wc ++ [V.ref c]) (j : Int) = some (.ref pj) := atI_nat hx
    have lf0 := hf0.1.len
    refine ⟨_, rfl, p, _, _, rfl, i4, kfs_crowds _ _ _ _ _, _, rfl, p, _, _, rfl, i4, kfs_rolls _ _ _ _ _, _, rfl, lr, _, _, _, rfl, rfl, SqL.of r4, atk, rk, _, _, _, rfl, rfl, SqL.of hrk4', at0, lc, _, _, _, rfl, rfl, SqL.of h4, atj, ?_⟩
    obtain ⟨cc, hcc⟩ := wys_some hn hf0.1 ht hf0.2 (by rw [elf]; exact lst)
    refine ⟨_, rfl, _, rfl, p, _, _, rfl, i4, kfs_n _ _ _ _ _, _, rfl, _, rfl, n, pj, f0, c, cs, rfl, SqT.of hpj, SqT.of hc4, n3, n24, by omega, fun l ws H5 l0 s5 h5 prw => ?_⟩
    obtain ⟨y, hy, pc, rfl, hpc⟩ := prd_get prw hcc
    refine ⟨l, _, _, _, rfl, rfl, SqL.of h5, atI_nat (j := 0) hy, two_fit, fun r H6 s6 h6 => ?_⟩
    have s46 := s5.trans s6
    refine q k j f0 cc ra' ga' r pc H6 lst (by rw [← fmN_is]; exact hfk) (by rw [← egrp]; exact hj0) hcj hcc ?_ (fun b hb => (n2 b hb).elim .inl fun z => .inr (s1.free z)) ((s1.tk.trans t2).trans (t24.trans s46.tk)) (kp4.same s46) h6 (s6 _ _ hpc)
    intro b o nb e
    have nb1 : b ≠ lc := fun z => nb (by rw [z]; simp)
    have hb1 := s1 _ _ e
    have nb2 : b ≠ rk := fun z => by
      rcases n2 rk rkm with y | y
      · exact nb (by rw [z]; simp [List.mem_append.mp y])
      · rw [z, y] at hb1
        cases hb1
    exact s46 _ _ (k24 _ _ nb2 nb1 (o2 b o nb hb1))
set_option maxHeartbeats 8000000 in
theorem ok_Keeper_many {f : Addr} {fd : FuncData} (F : Fun K "many" "Keeper.many" s_Keeper_many f fd) (T : Txt K mg)  : FnOk P w K mg base CX0 1 f fd ["self"] (sp_Keeper_many w K) := by
  refine F.ok sc_Keeper_many (fun vs H Q E h => ?_) (fun cdv A outer s H vs Q E hr h => ?_)
  · obtain ⟨p, n, cr, lc, lr, dk, dg, ra, ga, rfl, kp, q⟩ := h
    rfl
  · obtain ⟨p, n, cr, lc, lr, dk, dg, ra, ga, rfl, kp, q⟩ := h
    refine ⟨_, (@pss_one _ _ _ (@ps_ret _ _ _ _ (pe_callB call_len_seq (by rfl) T.b_len PySem.boot_len (@pa_cons _ _ _ _ _ (pe_fldN T.c_Keeper (List.Mem.tail _ (List.Mem.head _)) (pv 0) rfl) pa_nil (by rfl))))), ?_⟩
    set_option simprocs false in try dsimp only [cxOf, Cx.nox, Cx.wish]
    obtain ⟨wc, hc, prc⟩ := kp.c1
    have lw : wc.length = cr.length := prd_len prc
    refine ⟨_, rfl, p, _, _, rfl, kp.ins, kfs_crowds _ _ _ _ _, lc, _, rfl, .inl (SqL.of hc), ?_⟩
    rw [lw]
    exact q
set_option maxHeartbeats 8000000 in
theorem ok_Keeper_crowd_at {f : Addr} {fd : FuncData} (F : Fun K "crowd_at" "Keeper.crowd_at" s_Keeper_crowd_at f fd) (T : Txt K mg)  : FnOk P w K mg base CX0 1 f fd ["self", "number"] (sp_Keeper_crowd_at w K) := by
  refine F.ok sc_Keeper_crowd_at (fun vs H Q E h => ?_) (fun cdv A outer s H vs Q E hr h => ?_)
  · obtain ⟨i, c, p, n, cr, lc, lr, dk, dg, ra, ga, rfl, kp, hi, q⟩ := h
    rfl
  · obtain ⟨i, c, p, n, cr, lc, lr, dk, dg, ra, ga, rfl, kp, hi, q⟩ := h
    refine ⟨_, (@pss_cons _ _ _ _ _ (@ps_if _ _ _ _ _ _ _ _ (PW.pt (pw_or (@pt_cmpR _ _ _ _ _ _ _ _ op_lt (pv 1) pe_int (nomark _)) (pw_or1 (@pt_cmpR _ _ _ _ _ _ _ _ op_ge (pv 1) (pe_callB call_len_seq (by rfl) T.b_len PySem.boot_len (@pa_cons _ _ _ _ _ (pe_fldN T.c_Keeper (List.Mem.tail _ (List.Mem.head _)) (pv 0) rfl) pa_nil (by rfl))) (nomark _)))))
        (@pss_one _ _ _ ps_never)
        pss_nil)
      (@pss_one _ _ _ (@ps_ret _ _ _ _ (@pe_ix _ _ _ _ _ _ _ ix_list (pe_fldN T.c_Keeper (List.Mem.tail _ (List.Mem.head _)) (pv 0) rfl) (pv 1) (fun _ _ => rfl))))), ?_⟩
    set_option simprocs false in try dsimp only [cxOf, Cx.nox, Cx.wish]
    obtain ⟨wc, hc, prc⟩ := kp.c1
    have lw : wc.length = cr.length := prd_len prc
    have il := (List.getElem?_eq_some_iff.mp hi).1
    obtain ⟨x, hx, r, rfl, hr2⟩ := prd_get prc hi
    refine ⟨_, rfl, _, _, rfl, rfl, _, rfl, ifn (decide_eq_false (by omega)) ?_⟩
    refine ⟨_, rfl, _, rfl, p, _, _, rfl, kp.ins, kfs_crowds _ _ _ _ _, lc, _, rfl, .inl (SqL.of hc), _, _, rfl, rfl, _, rfl, ifn (decide_eq_false (by omega)) ?_⟩
    exact ⟨_, rfl, p, _, _, rfl, kp.ins, kfs_crowds _ _ _ _ _, _, rfl, lc, _, _, _, rfl, rfl, SqL.of hc, atI_nat hx, q r hr2⟩
set_option maxHeartbeats 8000000 in
theorem ok_Keeper_between {f : Addr} {fd : FuncData} (F : Fun K "between" "Keeper.between" s_Keeper_between f fd) (T : Txt K mg) (C_Keeper_crowd_at : HasM P w K mg base CX0 1 "Keeper" "crowd_at" ["self", "number"] (sp_Keeper_crowd_at w K)) (C_ways : Has P w K mg base 3 "ways" ["n", "one", "other"] (sp_ways w K)) : FnOk P w K mg base CX0 4 f fd ["self", "one", "other"] (sp_Keeper_between w K) := by
  refine F.ok sc_Keeper_between (fun vs H Q E h => ?_) (fun cdv A outer s H vs Q E hr h => ?_)
  · obtain ⟨i, j, c, d, p, n, cr, lc, lr, dk, dg, ra, ga, rfl, kp, hi, hj, htc, n3, n24, q⟩ := h
    rfl
  · obtain ⟨i, j, c, d, p, n, cr, lc, lr, dk, dg, ra, ga, rfl, kp, hi, hj, htc, n3, n24, q⟩ := h
    refine ⟨_, (@pss_one _ _ _ (@ps_ret _ _ _ _ (@pe_callH _ _ _ _ _ _ _ _ _ _ C_ways (hr.mono (by decide)) rfl (@pa_cons _ _ _ _ _ (pe_fldN T.c_Keeper (List.Mem.head _) (pv 0) rfl) (@pa_cons _ _ _ _ _ (pe_methN C_Keeper_crowd_at (hr.mono (by decide)) pass0 (pv 0) (@pa_cons _ _ _ _ _ (pv 1) pa_nil (by rfl))) (@pa_cons _ _ _ _ _ (pe_methN C_Keeper_crowd_at (hr.mono (by decide)) pass0 (pv 0) (@pa_cons _ _ _ _ _ (pv 2) pa_nil (by rfl))) pa_nil (by rfl)) (by rfl)) (by rfl)) (by decide) (by rfl) (by rfl)))), ?_⟩
    set_option simprocs false in try dsimp only [cxOf, Cx.nox, Cx.wish]
    have := htc.len
    refine ⟨_, rfl, p, _, _, rfl, kp.ins, kfs_n _ _ _ _ _, _, rfl, p, _, rfl, kp.ins, kfs_crowd_at _ _ _ _ _, _, rfl, i, c, p, n, cr, lc, lr, dk, dg, ra, ga, rfl, kp, hi, fun r1 h1 => ?_⟩
    refine ⟨_, rfl, p, _, rfl, kp.ins, kfs_crowd_at _ _ _ _ _, _, rfl, j, d, p, n, cr, lc, lr, dk, dg, ra, ga, rfl, kp, hj, fun r2 h2 => ?_⟩
    exact ⟨n, r1, c, r2, d, rfl, SqT.of h1, SqT.of h2, n3, n24, by omega, q⟩
set_option maxHeartbeats 8000000 in
theorem ok_l_cell_at {f : Addr} {fd : FuncData} (F : Fun K "_law_cell_at" "_law_cell_at" s_l_cell_at f fd) (T : Txt K mg)  : FnOk P w K mg base CX0 1 f fd ["_law_script", "_law_k"] (sp_l_cell_at w K) := by
  refine F.ok sc_l_cell_at (fun vs H Q E h => ?_) (fun cdv A outer s H vs Q E hr h => ?_)
  · obtain ⟨a, ns, k, rfl, hS, hl, q⟩ := h
    rfl
  · obtain ⟨a, ns, k, rfl, hS, hl, q⟩ := h
    refine ⟨_, (@pss_cons _ _ _ _ _ (@ps_if _ _ _ _ _ _ _ _ (@pt_cmpR _ _ _ _ _ _ _ _ op_eq (pe_callB call_len_seq (by rfl) T.b_len PySem.boot_len (@pa_cons _ _ _ _ _ (pv 0) pa_nil (by rfl))) pe_int (nomark _))
        (@pss_one _ _ _ (@ps_ret _ _ _ _ pe_int))
        pss_nil)
      (@pss_one _ _ _ (@ps_ret _ _ _ _ (@pe_ix _ _ _ _ _ _ _ ix_list (pv 0) (@pe_op _ _ _ _ _ _ _ _ op_mod (pv 1) (pe_callB call_len_seq (by rfl) T.b_len PySem.boot_len (@pa_cons _ _ _ _ _ (pv 0) pa_nil (by rfl)))) (fun _ _ => rfl))))), ?_⟩
    set_option simprocs false in try dsimp only [cxOf, Cx.nox, Cx.wish]
    have hlen : (ns.map V.int).length = ns.length := List.length_map _
    refine ⟨_, rfl, a, _, rfl, .inl hS, rfl, _, rfl, ?_⟩
    refine if2 (fun _ => q 0) (fun e => ?_)
    have e := of_eqF e
    have hp : (0 : Int) < ((ns.map V.int).length : Int) := by omega
    obtain ⟨c, _, hc⟩ := atI_int (ns := ns) (i := k % ((ns.map V.int).length : Int)) (mod_lo _ hp) (by rw [← hlen]; exact mod_hi _ hp)
    exact ⟨_, rfl, _, rfl, _, rfl, a, _, rfl, .inl hS, _, _, rfl, rfl, hp, a, _, _, _, rfl, rfl, hS, hc, q c⟩
set_option maxHeartbeats 8000000 in
theorem ok_l_mixed {f : Addr} {fd : FuncData} (F : Fun K "_law_mixed" "_law_mixed" s_l_mixed f fd) (T : Txt K mg) (C_l_cell_at : Has P w K mg base 1 "_law_cell_at" ["_law_script", "_law_k"] (sp_l_cell_at w K)) : FnOk P w K mg base CX0 2 f fd ["_law_script", "_law_k", "_law_salt"] (sp_l_mixed w K) := by
  refine F.ok sc_l_mixed (fun vs H Q E h => ?_) (fun cdv A outer s H vs Q E hr h => ?_)
  · obtain ⟨a, ns, k, z, rfl, hS, hl, ⟨k0, k1⟩, ⟨z0, z1⟩, q⟩ := h
    rfl
  · obtain ⟨a, ns, k, z, rfl, hS, hl, ⟨k0, k1⟩, ⟨z0, z1⟩, q⟩ := h
    refine ⟨_, (@pss_cons _ _ _ _ _ (@ps_set _ _ 3 _ _ _ _ sc_l_mixed.nd rfl (Or.inl rfl) (@pe_callH _ _ _ _ _ _ _ _ _ _ C_l_cell_at (hr.mono (by decide)) rfl (@pa_cons _ _ _ _ _ (pv 0) (@pa_cons _ _ _ _ _ (pv 1) pa_nil (by rfl)) (by rfl)) (by decide) (by rfl) (by rfl)) (by rfl) (by first | exact Or.inl rfl | exact Or.inr rfl))
      (@pss_cons _ _ _ _ _ (@ps_set _ _ 4 _ _ _ _ sc_l_mixed.nd rfl (Or.inl rfl) (@pe_op _ _ _ _ _ _ _ _ op_fdiv (pv 1) (pe_callB (call_max2 rfl) (by rfl) T.b_max PyProof.Rows.boot_max (@pa_cons _ _ _ _ _ pe_int (@pa_cons _ _ _ _ _ (pe_callB call_len_seq (by rfl) T.b_len PySem.boot_len (@pa_cons _ _ _ _ _ (pv 0) pa_nil (by rfl))) pa_nil (by rfl)) (by rfl)))) (by rfl) (by first | exact Or.inl rfl | exact Or.inr rfl))
      (@pss_cons _ _ _ _ _ (@ps_set _ _ 5 _ _ _ _ sc_l_mixed.nd rfl (Or.inl rfl) (@pe_op _ _ _ _ _ _ _ _ op_add (@pe_op _ _ _ _ _ _ _ _ op_add (@pe_op _ _ _ _ _ _ _ _ op_add (@pe_op _ _ _ _ _ _ _ _ op_and (pv 3) pe_int) (@pe_op _ _ _ _ _ _ _ _ op_mul (@pe_op _ _ _ _ _ _ _ _ op_mul pe_int (pv 1)) (pv 1))) (@pe_op _ _ _ _ _ _ _ _ op_mul (@pe_op _ _ _ _ _ _ _ _ op_mul pe_int (pv 2)) (pv 2))) pe_int) (by rfl) (by first | exact Or.inl rfl | exact Or.inr rfl))
      (@pss_cons _ _ _ _ _ (@ps_set _ _ 5 _ _ _ _ sc_l_mixed.nd rfl (Or.inl rfl) (@pe_op _ _ _ _ _ _ _ _ op_mod (@pe_op _ _ _ _ _ _ _ _ op_mul (pv 5) pe_int) pe_int) (by rfl) (by first | exact Or.inl rfl | exact Or.inr rfl))
      (@pss_cons _ _ _ _ _ (@ps_set _ _ 5 _ _ _ _ sc_l_mixed.nd rfl (Or.inl rfl) (@pe_op _ _ _ _ _ _ _ _ op_mod (@pe_op _ _ _ _ _ _ _ _ op_mul (pv 5) (pv 5)) pe_int) (by rfl) (by first | exact Or.inl rfl | exact Or.inr rfl))
      (@pss_one _ _ _ (@ps_ret _ _ _ _ (@pe_op _ _ _ _ _ _ _ _ op_and (@pe_op _ _ _ _ _ _ _ _ op_add (@pe_op _ _ _ _ _ _ _ _ op_shr (pv 3) (@pe_op _ _ _ _ _ _ _ _ op_mul pe_int (@pe_op _ _ _ _ _ _ _ _ op_add (pv 2) (@pe_op _ _ _ _ _ _ _ _ op_mul pe_int (pv 4))))) (pv 5)) pe_int)))))))), ?_⟩
    set_option simprocs false in try dsimp only [cxOf, Cx.nox, Cx.wish]
    refine seqL6 ?_
    intro u6 u5 u4 u3 u2
    have hlen : (ns.map V.int).length = ns.length := List.length_map _
    -- cell
    refine ⟨_, rfl, _, rfl, a, ns, k, rfl, hS, hl, fun c => ?_⟩
    -- lap
    have hm : CDiv k (if (((ns.map V.int).length : Nat) : Int) > 1 then (((ns.map V.int).length : Nat) : Int) else 1) := by
      show 0 < (if (((ns.map V.int).length : Nat) : Int) > 1 then (((ns.map V.int).length : Nat) : Int) else 1) ∧ (if (((ns.map V.int).length : Nat) : Int) > 1 then (((ns.map V.int).length : Nat) : Int) else 1) < 1073741824
      rw [hlen]
      split <;> omega
    refine ⟨_, rfl, _, rfl, a, _, rfl, .inl hS, _, _, rfl, _, _, rfl, rfl, hm, ?_⟩
    have lap0 : 0 ≤ k / (if (((ns.map V.int).length : Nat) : Int) > 1 then (((ns.map V.int).length : Nat) : Int) else 1) := Int.ediv_nonneg k0 (Int.le_of_lt hm.1)
    -- near
    refine ⟨_, rfl, _, _, rfl, rfl, _, rfl, _, _, rfl, rfl, .inl ⟨by decide, by decide⟩, _, rfl, _, _, rfl, rfl, .inr ⟨by omega, by omega⟩, _, _, rfl, rfl, _, rfl, _, _, rfl, rfl, .inl ⟨by decide, by decide⟩, _, rfl, _, _, rfl, rfl, .inr ⟨by omega, by omega⟩, _, _, rfl, rfl, _, _, rfl, rfl, ?_⟩
    refine ⟨_, rfl, _, _, rfl, rfl, .inr ⟨by decide, by decide⟩, _, _, rfl, rfl, (by show (0 : Int) < 2147483647; decide), ?_⟩
    refine ⟨_, rfl, _, rfl, _, _, rfl, rfl, .inl ⟨by omega, by omega⟩, _, _, rfl, rfl, (by show (0 : Int) < 2147483629; decide), ?_⟩
    -- the answer
    refine ⟨_, rfl, _, rfl, _, rfl, _, _, rfl, rfl, .inl ⟨by decide, by decide⟩, _, _, rfl, rfl, _, _, rfl, rfl, .inl ⟨by decide, by decide⟩, _, _, rfl, rfl, (by omega), _, rfl, _, _, rfl, rfl, _, _, rfl, rfl, ?_⟩
    exact q _ (by rw [mask31 (_ + _)]; exact mod_lo _ (by decide)) (by rw [mask31 (_ + _)]; exact mod_hi _ (by decide))
set_option maxHeartbeats 8000000 in
theorem ok_l_wheel {f : Addr} {fd : FuncData} (F : Fun K "_law_wheel" "_law_wheel" s_l_wheel f fd) (T : Txt K mg) (C_l_mixed : Has P w K mg base 2 "_law_mixed" ["_law_script", "_law_k", "_law_salt"] (sp_l_mixed w K)) : FnOk P w K mg base CX0 3 f fd ["_law_script", "_law_most"] (sp_l_wheel w K) := by
  refine F.ok sc_l_wheel (fun vs H Q E h => ?_) (fun cdv A outer s H vs Q E hr h => ?_)
  · obtain ⟨a, ns, rfl, hS, hl, q⟩ := h
    rfl
  · obtain ⟨a, ns, rfl, hS, hl, q⟩ := h
    refine ⟨_, (@pss_one _ _ _ (@ps_ret _ _ _ _ (@pe_op _ _ _ _ _ _ _ _ op_add pe_int (@pe_op _ _ _ _ _ _ _ _ op_mod (@pe_callH _ _ _ _ _ _ _ _ _ _ C_l_mixed (hr.mono (by decide)) rfl (@pa_cons _ _ _ _ _ (pv 0) (@pa_cons _ _ _ _ _ pe_int (@pa_cons _ _ _ _ _ pe_int pa_nil (by rfl)) (by rfl)) (by rfl)) (by decide) (by rfl) (by rfl)) (@pe_op _ _ _ _ _ _ _ _ op_sub (pv 1) pe_int))))), ?_⟩
    set_option simprocs false in try dsimp only [cxOf, Cx.nox, Cx.wish]
    refine ⟨_, rfl, a, ns, 0, 1, rfl, hS, hl, ⟨by decide, by decide⟩, ⟨by decide, by decide⟩, fun c c0 c1 => ?_⟩
    refine ⟨_, rfl, _, _, rfl, rfl, _, _, rfl, rfl, (by show (0 : Int) < 24 - 2; decide), _, _, rfl, rfl, ?_⟩
    have h0 := mod_lo c (n := 24 - 2) (by decide)
    have h1 := mod_hi c (n := 24 - 2) (by decide)
    exact q _ (by omega) (by omega)
set_option maxHeartbeats 8000000 in
theorem ok_l_row {f : Addr} {fd : FuncData} (F : Fun K "_law_row" "_law_row" s_l_row f fd) (T : Txt K mg) (C_l_mixed : Has P w K mg base 2 "_law_mixed" ["_law_script", "_law_k", "_law_salt"] (sp_l_mixed w K)) : FnOk P w K mg base CX0 3 f fd ["_law_script", "_law_k", "_law_salt", "_law_n"] (sp_l_row w K) := by
  refine F.ok sc_l_row (fun vs H Q E h => ?_) (fun cdv A outer s H vs Q E hr h => ?_)
  · obtain ⟨a, ns, k, z, n, rfl, hS, hl, ⟨k0, k1⟩, ⟨z0, z1⟩, n0, n24, q⟩ := h
    rfl
  · obtain ⟨a, ns, k, z, n, rfl, hS, hl, ⟨k0, k1⟩, ⟨z0, z1⟩, n0, n24, q⟩ := h
    refine ⟨_, (@pss_cons _ _ _ _ _ (@ps_set _ _ 4 _ _ _ _ sc_l_row.nd rfl (Or.inl rfl) (pe_callTy (call_list_rng rfl) (by rfl) T.b_list PyProof.Rows.boot_list (@pa_cons _ _ _ _ _ (pe_callTy call_range1 (by rfl) T.b_range PyProof.Rows.boot_range (@pa_cons _ _ _ _ _ (pv 3) pa_nil (by rfl))) pa_nil (by rfl))) (by rfl) (by first | exact Or.inl rfl | exact Or.inr rfl))
      (@pss_cons _ _ _ _ _ (@ps_set _ _ 5 _ _ _ _ sc_l_row.nd rfl (Or.inl rfl) (@pe_lst _ _ _ _ pa_nil) (by rfl) (by first | exact Or.inl rfl | exact Or.inr rfl))
      (@pss_cons _ _ _ _ _ (ps_for PassesOwn.never rfl (pi_range1 rfl T.b_range (@pa_cons _ _ _ _ _ (pv 3) pa_nil (by rfl))) (pg_name (i := 6) sc_l_row.nd rfl (Or.inl rfl))
        (@pss_one _ _ _ (ps_expr (pe_bm PySem.F.plainAttrs_list PySem.F.slot_list_append PySem.F.type_list_append mt_append (pv 5) (@pa_cons _ _ _ _ _ (pe_bm PySem.F.plainAttrs_list PySem.F.slot_list_pop PySem.F.type_list_pop mt_popAt (pv 4) (@pa_cons _ _ _ _ _ (@pe_op _ _ _ _ _ _ _ _ op_mod (@pe_callH _ _ _ _ _ _ _ _ _ _ C_l_mixed (hr.mono (by decide)) rfl (@pa_cons _ _ _ _ _ (pv 0) (@pa_cons _ _ _ _ _ (@pe_op _ _ _ _ _ _ _ _ op_add (pv 1) (pv 6)) (@pa_cons _ _ _ _ _ (pv 2) pa_nil (by rfl)) (by rfl)) (by rfl)) (by decide) (by rfl) (by rfl)) (pe_callB call_len_seq (by rfl) T.b_len PySem.boot_len (@pa_cons _ _ _ _ _ (pv 4) pa_nil (by rfl)))) pa_nil (by rfl))) pa_nil (by rfl))))))
      (@pss_one _ _ _ (@ps_ret _ _ _ _ (pe_callTy call_tuple_of (by rfl) T.b_tuple PyProof.Rows.boot_tuple (@pa_cons _ _ _ _ _ (pv 5) pa_nil (by rfl)))))))), ?_⟩
    set_option simprocs false in try dsimp only [cxOf, Cx.nox, Cx.wish]
    refine seqL4 ?_
    intro u4 u3 u2
    refine ⟨_, rfl, n, rfl, fun q1 h1 => ⟨q1, 0, n, rfl, upd_same, ⟨by decide, by decide, by omega, by omega, by omega⟩, fun L L0 => ?_⟩⟩
    rw [rngL0]
    have sL : Same H (upd (upd H q1 (.rng 0 n)) L (.lst ((rng n).map V.int))) := (Same.new h1).trans (Same.new L0)
    refine ⟨(by show 0 ≤ sizeLine; decide), fun R R0 => ?_⟩
    have LR : L ≠ R := ne_of_none upd_same R0
    have hL0 : H L = none := (Same.new h1).free L0
    have hR0 : H R = none := sL.free R0
    refine ⟨_, rfl, n, rfl, by omega, by omega, for_range (fun i σ H2 => ∃ (v : Option V) (ls rs : List Int), σ = [some (.ref a), some (.int k), some (.int z), some (.int n), some (.ref L), some (.ref R), v] ∧ Same H H2 ∧ H2 L = some (.lst (ls.map V.int)) ∧ H2 R = some (.lst (rs.map V.int)) ∧ (rs ++ ls).Perm (rng n) ∧ rs.length = i) ?_ ?_ ?_⟩
    · exact ⟨_, rng n, [], rfl, sL.trans (Same.new R0), by rw [upd_ne LR]; exact upd_same, upd_same, List.Perm.refl _, rfl⟩
    · rintro i σ H2 hi ⟨v, ls, rs, rfl, s2, hL, hR, pm, hl2⟩
      have hlen : ls.length = n.toNat - i := by
        have := pm.length_eq
        rw [List.length_append, rng_len] at this
        omega
      have hll : ((ls.map V.int).length : Int) = (n.toNat - i : Nat) := by rw [List.length_map, hlen]
      refine ⟨_, rfl, .inl ⟨rfl, _, SqL.of hR⟩, _, rfl, .inl ⟨rfl, _, SqL.of hL⟩, ?_⟩
      refine ⟨_, rfl, _, rfl, _, rfl, _, _, rfl, rfl, _, rfl, a, ns, _, _, rfl, s2.seq hS, hl, ⟨by omega, by omega⟩, ⟨by omega, by omega⟩, fun c c0 c1 => ?_⟩
      have hp : (0 : Int) < ((ls.map V.int).length : Int) := by omega
      refine ⟨_, rfl, L, _, rfl, .inl (SqL.of hL), _, _, rfl, rfl, hp, ?_⟩
      have j0 := mod_lo c hp
      have j1 := mod_hi c hp
      dsimp only
      generalize c % ((ls.map V.int).length : Int) = j at j0 j1
      have hj : j.toNat < ls.length := by omega
      refine ⟨L, ls.map V.int, j, j.toNat, .int ls[j.toNat], rfl, rfl, hL, by omega, by omega, ?_, ?_, ?_⟩
      · have jl : j < ((ls.map V.int).length : Int) := by omega
        exact seq_ix j0 jl
      · rw [List.getElem?_map, List.getElem?_eq_getElem hj]; rfl
      · refine ⟨R, _, _, rfl, rfl, by rw [upd_ne (Ne.symm LR)]; exact hR, ?_, ?_⟩
        · rw [List.length_map]; exact fit999 (by omega)
        · refine ⟨_, ls.eraseIdx j.toNat, rs ++ [ls[j.toNat]], rfl, ?_, ?_, ?_, ?_, ?_⟩
          · exact Same.upd (Same.upd s2 hL0) hR0
          · rw [upd_ne LR, upd_same]
            exact congrArg (fun z => some (HO.lst z)) (erase_map V.int ls j.toNat)
          · rw [upd_same]
            exact congrArg (fun z => some (HO.lst z)) (by rw [List.map_append]; rfl)
          · refine List.Perm.trans ?_ pm
            rw [List.append_assoc]
            refine List.Perm.append_left rs ?_
            exact STab.perm_pick (List.getElem?_eq_getElem hj)
          · rw [List.length_append, hl2]; rfl
    · rintro σ H2 ⟨v, ls, rs, rfl, s2, hL, hR, pm, hl2⟩
      have hlen : ls = [] := by
        have := pm.length_eq
        rw [List.length_append, rng_len] at this
        exact List.length_eq_zero_iff.mp (by omega)
      rw [hlen, List.append_nil] at pm
      exact ⟨_, rfl, R, _, rfl, .inl ⟨SqL.of hR, fun r r0 => q rs pm r _ (s2.trans (Same.new r0)) upd_same⟩⟩
set_option maxHeartbeats 8000000 in
theorem ok_l_sized {f : Addr} {fd : FuncData} (F : Fun K "_law_sized" "_law_sized" s_l_sized f fd) (T : Txt K mg) (C_l_row : Has P w K mg base 3 "_law_row" ["_law_script", "_law_k", "_law_salt", "_law_n"] (sp_l_row w K)) : FnOk P w K mg base CX0 4 f fd ["_law_script", "_law_k", "_law_salt", "_law_n", "_law_size"] (sp_l_sized w K) := by
  refine F.ok sc_l_sized (fun vs H Q E h => ?_) (fun cdv A outer s H vs Q E hr h => ?_)
  · obtain ⟨a, ns, k, z, n, m, rfl, hS, hl, ⟨k0, k1⟩, ⟨z0, z1⟩, n0, n24, m0, mn, q⟩ := h
    rfl
  · obtain ⟨a, ns, k, z, n, m, rfl, hS, hl, ⟨k0, k1⟩, ⟨z0, z1⟩, n0, n24, m0, mn, q⟩ := h
    refine ⟨_, (@pss_one _ _ _ (@ps_ret _ _ _ _ (pe_callTy call_tuple_of (by rfl) T.b_tuple PyProof.Rows.boot_tuple (@pa_cons _ _ _ _ _ (pe_callB (call_sorted_i rfl) (by rfl) T.b_sorted PyProof.Rows.boot_sorted (@pa_cons _ _ _ _ _ (pe_slice sl_tupS (@pe_callH _ _ _ _ _ _ _ _ _ _ C_l_row (hr.mono (by decide)) rfl (@pa_cons _ _ _ _ _ (pv 0) (@pa_cons _ _ _ _ _ (pv 1) (@pa_cons _ _ _ _ _ (pv 2) (@pa_cons _ _ _ _ _ (pv 3) pa_nil (by rfl)) (by rfl)) (by rfl)) (by rfl)) (by decide) (by rfl) (by rfl)) po_none (po_some (pv 4))) pa_nil (by rfl))) pa_nil (by rfl))))), ?_⟩
    set_option simprocs false in try dsimp only [cxOf, Cx.nox, Cx.wish]
    refine ⟨_, rfl, _, rfl, _, rfl, _, rfl, a, ns, k, z, n, rfl, hS, hl, ⟨by omega, by omega⟩, ⟨by omega, by omega⟩, n0, n24, fun xs pm r H1 s1 h1 => ?_⟩
    refine ⟨_, rfl, m, rfl, r, _, rfl, h1, fun p H2 s2 h2 => ?_⟩
    have e1 : cutV (xs.map V.int) none (some m) = (xs.take m.toNat).map V.int := by
      have : m = ((m.toNat : Nat) : Int) := by omega
      rw [this, cut_front, List.map_take, Int.toNat_natCast]
    rw [e1] at h2
    have lx : xs.length = n.toNat := by rw [pm.length_eq, rng_len]
    refine ⟨p, _, rfl, ?_, .inr (.inl (SqT.of h2)), fun l ls l0 pm2 pw => ?_⟩
    · rw [List.length_take]; omega
    have nd : ls.Nodup := pm2.nodup_iff.mpr ((List.take_sublist _ _).nodup (pm.nodup_iff.mpr ((rng_pw n).imp fun h => Int.ne_of_lt h)))
    have hb : ∀ x ∈ ls, 0 ≤ x ∧ x < n := fun x hx => rng_mem.mp (pm.mem_iff.mp (List.mem_of_mem_take (pm2.mem_iff.mp hx)))
    have e := cw_of (lt_of_le_nodup pw nd) hb
    have el : (ls.length : Int) = m := by
      rw [pm2.length_eq, List.length_take, lx]; omega
    refine ⟨l, _, rfl, .inl ⟨SqL.of upd_same, fun r2 r20 => q _ (by rw [← e]; exact el) r2 _ ((s1.trans s2).trans ((Same.new l0).trans (Same.new r20))) (by rw [← e]; exact upd_same)⟩⟩
set_option maxHeartbeats 8000000 in
theorem ok_l_change {f : Addr} {fd : FuncData} (F : Fun K "_law_change" "_law_change" s_l_change f fd) (T : Txt K mg) (C_l_mixed : Has P w K mg base 2 "_law_mixed" ["_law_script", "_law_k", "_law_salt"] (sp_l_mixed w K)) : FnOk P w K mg base CX0 3 f fd ["_law_script", "_law_k", "_law_salt", "_law_n"] (sp_l_change w K) := by
  refine F.ok sc_l_change (fun vs H Q E h => ?_) (fun cdv A outer s H vs Q E hr h => ?_)
  · obtain ⟨a, ns, k, z, n, rfl, hS, hl, hk, hz, hn, q⟩ := h
    rfl
  · obtain ⟨a, ns, k, z, n, rfl, hS, hl, hk, hz, hn, q⟩ := h
    refine ⟨_, (@pss_cons _ _ _ _ _ (@ps_set _ _ 4 _ _ _ _ sc_l_change.nd rfl (Or.inl rfl) (@pe_callH _ _ _ _ _ _ _ _ _ _ C_l_mixed (hr.mono (by decide)) rfl (@pa_cons _ _ _ _ _ (pv 0) (@pa_cons _ _ _ _ _ (pv 1) (@pa_cons _ _ _ _ _ (pv 2) pa_nil (by rfl)) (by rfl)) (by rfl)) (by decide) (by rfl) (by rfl)) (by rfl) (by first | exact Or.inl rfl | exact Or.inr rfl))
      (@pss_one _ _ _ (@ps_ret _ _ _ _ (@pe_tup _ _ _ _ _ (@pa_cons _ _ _ _ _ (@pe_ix _ _ _ _ _ _ _ ix_list (@pe_lst _ _ _ _ (@pa_cons _ _ _ _ _ pe_str (@pa_cons _ _ _ _ _ pe_str pa_nil (by rfl)) (by rfl))) (@pe_op _ _ _ _ _ _ _ _ op_mod (pv 4) pe_int) (fun _ _ => rfl)) (@pa_cons _ _ _ _ _ (@pe_op _ _ _ _ _ _ _ _ op_mod (@pe_op _ _ _ _ _ _ _ _ op_fdiv (pv 4) pe_int) (pv 3)) pa_nil (by rfl)) (by rfl)))))), ?_⟩
    set_option simprocs false in try dsimp only [cxOf, Cx.nox, Cx.wish]
    refine ⟨_, rfl, _, rfl, _, rfl, a, ns, k, z, rfl, hS, hl, hk, hz, fun c c0 c1 => ?_⟩
    refine ⟨two_fit, fun l hl0 => ?_⟩
    obtain ⟨t, ht⟩ : ∃ t : Bool, atI [V.str "turn", V.str "mirror"] (c % 2) = some (V.str (kS t)) := by
      rcases (by omega : c % 2 = 0 ∨ c % 2 = 1) with e | e
      · rw [e]; exact ⟨true, rfl⟩
      · rw [e]; exact ⟨false, rfl⟩
    refine ⟨_, rfl, _, _, rfl, rfl, (by show (0 : Int) < 2; decide), l, _, _, _, rfl, rfl, SqL.of upd_same, ht, _, rfl, _, _, rfl, rfl, ⟨by decide, by decide⟩, _, rfl, _, _, rfl, rfl, hn, two_fit, fun r hr0 => ?_⟩
    have hr1 : H r = none := (Same.new hl0).free hr0
    exact q t _ r _ (mod_lo _ hn) (mod_hi _ hn) ((Same.new hl0).trans (Same.new hr0)) hr1 upd_same
set_option maxHeartbeats 8000000 in
theorem ok_l_done {f : Addr} {fd : FuncData} (F : Fun K "_law_done" "_law_done" s_l_done f fd) (T : Txt K mg)  : FnOk P w K mg base CX0 1 f fd ["_law_n", "_law_change_here", "_law_tone"] (sp_l_done w K) := by
  refine F.ok sc_l_done (fun vs H Q E h => ?_) (fun cdv A outer s H vs Q E hr h => ?_)
  · obtain ⟨n, p, t, m, x, rfl, hn, hp, q⟩ := h
    rfl
  · obtain ⟨n, p, t, m, x, rfl, hn, hp, q⟩ := h
    refine ⟨_, (@pss_cons _ _ _ _ _ (@ps_if _ _ _ _ _ _ _ _ (@pt_cmpR _ _ _ _ _ _ _ _ op_eq (@pe_ix _ _ _ _ _ _ _ ix_tup (pv 1) pe_int (fun _ _ => rfl)) pe_str (nomark _))
        (@pss_one _ _ _ (@ps_ret _ _ _ _ (@pe_op _ _ _ _ _ _ _ _ op_mod (@pe_op _ _ _ _ _ _ _ _ op_add (pv 2) (@pe_ix _ _ _ _ _ _ _ ix_tup (pv 1) pe_int (fun _ _ => rfl))) (pv 0))))
        pss_nil)
      (@pss_one _ _ _ (@ps_ret _ _ _ _ (@pe_op _ _ _ _ _ _ _ _ op_mod (@pe_op _ _ _ _ _ _ _ _ op_sub (@pe_ix _ _ _ _ _ _ _ ix_tup (pv 1) pe_int (fun _ _ => rfl)) (pv 2)) (pv 0))))), ?_⟩
    set_option simprocs false in try dsimp only [cxOf, Cx.nox, Cx.wish]
    refine ⟨_, rfl, p, _, _, _, rfl, rfl, SqT.of hp, rfl, rfl, _, rfl, ?_⟩
    rw [kS_turn t]
    cases t with
    | true => exact ifp rfl ⟨_, rfl, _, rfl, p, _, _, _, rfl, rfl, SqT.of hp, rfl, _, _, rfl, rfl, _, rfl, _, _, rfl, rfl, hn, q⟩
    | false => exact ifn rfl ⟨_, rfl, p, _, _, _, rfl, rfl, SqT.of hp, rfl, _, rfl, _, _, rfl, rfl, _, rfl, _, _, rfl, rfl, hn, q⟩
set_option maxHeartbeats 8000000 in
theorem ok_l_changed {f : Addr} {fd : FuncData} (F : Fun K "_law_changed" "_law_changed" s_l_changed f fd) (T : Txt K mg) (C_l_done : Has P w K mg base 1 "_law_done" ["_law_n", "_law_change_here", "_law_tone"] (sp_l_done w K)) : FnOk P w K mg base CX0 2 f fd ["_law_n", "_law_crowd_here", "_law_change_here"] (sp_l_changed w K) := by
  refine F.ok sc_l_changed (fun vs H Q E h => ?_) (fun cdv A outer s H vs Q E hr h => ?_)
  · obtain ⟨n, p, cs, c, t, m, rfl, hS, hc, n0, n24, ht, q⟩ := h
    rfl
  · obtain ⟨n, p, cs, c, t, m, rfl, hS, hc, n0, n24, ht, q⟩ := h
    refine ⟨_, (@pss_one _ _ _ (@ps_ret _ _ _ _ (pe_callTy call_tuple_of (by rfl) T.b_tuple PyProof.Rows.boot_tuple (@pa_cons _ _ _ _ _ (pe_callB (call_sorted_i rfl) (by rfl) T.b_sorted PyProof.Rows.boot_sorted (@pa_cons _ _ _ _ _ (pe_comp (ys := ["_law_n", "_law_change_here"]) (js := [0, 2]) ⟨by rfl, of_decide_eq_true (by kernel_rfl), of_decide_eq_true (by kernel_rfl), by rfl, of_decide_eq_true (by kernel_rfl), of_decide_eq_true (by kernel_rfl), by rfl, of_decide_eq_true (by kernel_rfl)⟩ rfl (pi_tup (pv 1)) (fun _ _ _ _ _ => pts_nil) (fun _ _ _ _ _ => (@pe_callH _ _ _ _ _ _ _ _ _ _ C_l_done (hr.mono (by decide)) rfl (@pa_cons _ _ _ _ _ (pv 1) (@pa_cons _ _ _ _ _ (pv 2) (@pa_cons _ _ _ _ _ (pv 0) pa_nil (by rfl)) (by rfl)) (by rfl)) (by decide) (by rfl) (by rfl)))) pa_nil (by rfl))) pa_nil (by rfl))))), ?_⟩
    set_option simprocs false in try dsimp only [cxOf, Cx.nox, Cx.wish]
    have hl := ht.len
    refine ⟨_, rfl, p, rfl, ⟨_, hS⟩, comp_int cs V.int (fun _ => true) (dn n t m) (it_tup cs V.int hS) (fun b H' _ _ Q2 h => h H' (Same.refl _)) (fun b H' _ _ s Q2 h => ⟨_, rfl, _, rfl, _, rfl, n, c, t, m, b, rfl, n0, s _ _ hc, h H' (Same.refl _)⟩) (fit1000 (by omega)) fun D H1 hD s1 hL => ?_⟩
    rw [filter_all] at hL
    refine ⟨D, cs.map (dn n t m), rfl, by rw [List.length_map]; omega, .inl (SqL.of hL), fun l ls l0 pm pw => ?_⟩
    have e := img_sorted n0 ht pm pw
    subst e
    exact ⟨l, _, rfl, .inl ⟨SqL.of upd_same, fun r r0 => q r _ ((s1.trans (Same.new l0)).trans (Same.new r0)) upd_same⟩⟩
set_option maxHeartbeats 8000000 in
theorem ok_l_changes {f : Addr} {fd : FuncData} (F : Fun K "_law_changes" "_law_changes" s_l_changes f fd) (T : Txt K mg)  : FnOk P w K mg base CX0 1 f fd ["_law_n"] (sp_l_changes w K) := by
  refine F.ok sc_l_changes (fun vs H Q E h => ?_) (fun cdv A outer s H vs Q E hr h => ?_)
  · obtain ⟨n, rfl, n3, n24, q⟩ := h
    rfl
  · obtain ⟨n, rfl, n3, n24, q⟩ := h
    refine ⟨_, (@pss_one _ _ _ (@ps_ret _ _ _ _ (@pe_op _ _ _ _ _ _ _ _ op_cat (pe_comp (ys := []) (js := []) ⟨by rfl, of_decide_eq_true (by kernel_rfl), of_decide_eq_true (by kernel_rfl), by rfl, of_decide_eq_true (by kernel_rfl), of_decide_eq_true (by kernel_rfl), by rfl, of_decide_eq_true (by kernel_rfl)⟩ rfl (pi_range1 rfl T.b_range (@pa_cons _ _ _ _ _ (pv 0) pa_nil (by rfl))) (fun _ _ _ _ _ => pts_nil) (fun _ _ _ _ _ => (@pe_tup _ _ _ _ _ (@pa_cons _ _ _ _ _ pe_str (@pa_cons _ _ _ _ _ (pv 0) pa_nil (by rfl)) (by rfl))))) (pe_comp (ys := []) (js := []) ⟨by rfl, of_decide_eq_true (by kernel_rfl), of_decide_eq_true (by kernel_rfl), by rfl, of_decide_eq_true (by kernel_rfl), of_decide_eq_true (by kernel_rfl), by rfl, of_decide_eq_true (by kernel_rfl)⟩ rfl (pi_range1 rfl T.b_range (@pa_cons _ _ _ _ _ (pv 0) pa_nil (by rfl))) (fun _ _ _ _ _ => pts_nil) (fun _ _ _ _ _ => (@pe_tup _ _ _ _ _ (@pa_cons _ _ _ _ _ pe_str (@pa_cons _ _ _ _ _ (pv 0) pa_nil (by rfl)) (by rfl)))))))), ?_⟩
    set_option simprocs false in try dsimp only [cxOf, Cx.nox, Cx.wish]
    have hsz : (rng n).length ≤ sizeLine := by rw [rng_len]; exact Nat.le_trans (show n.toNat ≤ 24 by omega) (by decide)
    have one : ∀ (k : Bool) (js : List Nat) (σ : St) (H0 : Hp) (Fin : Addr → Hp → Prop), (∀ D ws H', H0 D = none → Same H0 H' → H' D = some (.lst ws) → Paired (ChgR H') ws ((rng n).map fun i => (k, i)) → Fin D H') →
        CompBy js tAll (tTup (tCons (tC (.str (kS k))) (tCons (tVar 0) tNil))) σ (Itr 0 n.toNat) H0 Fin := by
      intro k js σ H0 Fin hF
      refine comp_grow (rng n) V.int (fun _ => true) (fun i => (k, i)) ChgR (fun _ _ _ _ t r => r.mono t) (it_range H0 0 n.toNat) (fun b H' _ _ Q2 h => h H' (Same.refl _)) (fun b H' _ _ _ Q2 h => ?_) hsz (fun D ws H' hD sm hL pr => ?_)
      · exact ⟨_, rfl, two_fit, fun r h0 => h _ _ (Same.new h0) ⟨r, rfl, upd_same⟩⟩
      · rw [filter_all] at pr
        exact hF D ws H' hD sm hL pr
    refine ⟨_, rfl, n, rfl, by omega, by omega, one true _ _ _ _ fun D ws H1 hD s1 hL p1 => ?_⟩
    refine ⟨_, rfl, n, rfl, by omega, by omega, one false _ _ _ _ fun D2 ws2 H2 hD2 s2 hL2 p2 => ?_⟩
    have e1 := prd_len p1
    have e2 := prd_len p2
    rw [List.length_map, rng_len] at e1 e2
    refine ⟨D, D2, ws, ws2, rfl, rfl, s2 _ _ hL, hL2, Nat.le_trans (show ws.length + ws2.length ≤ 48 by omega) (by decide), fun r h0 => ?_⟩
    have s3 := Same.new (o := .lst (ws ++ ws2)) h0
    refine q r _ _ ((s1.trans s2).free h0) ((s1.trans s2).trans s3) upd_same (prd_append ?_ ?_)
    · exact prd_imp (fun x y r => r.mono (s2.trans s3).tk) p1
    · exact prd_imp (fun x y r => r.mono s3.tk) p2
set_option maxHeartbeats 8000000 in
theorem ok_l_next {f : Addr} {fd : FuncData} (F : Fun K "_law_next" "_law_next" s_l_next f fd) (T : Txt K mg) (C_l_change : Has P w K mg base 3 "_law_change" ["_law_script", "_law_k", "_law_salt", "_law_n"] (sp_l_change w K)) (C_l_changed : Has P w K mg base 2 "_law_changed" ["_law_n", "_law_crowd_here", "_law_change_here"] (sp_l_changed w K)) (C_l_mixed : Has P w K mg base 2 "_law_mixed" ["_law_script", "_law_k", "_law_salt"] (sp_l_mixed w K)) (C_l_sized : Has P w K mg base 4 "_law_sized" ["_law_script", "_law_k", "_law_salt", "_law_n", "_law_size"] (sp_l_sized w K)) : FnOk P w K mg base CX0 5 f fd ["_law_script", "_law_k", "_law_n", "_law_heard"] (sp_l_next w K) := by
  refine F.ok sc_l_next (fun vs H Q E h => ?_) (fun cdv A outer s H vs Q E hr h => ?_)
  · obtain ⟨a, ns, k, n, l, wc, cr, rfl, hS, hl, ⟨k0, k1⟩, n0, n24, hl2, prc, htc, q⟩ := h
    rfl
  · obtain ⟨a, ns, k, n, l, wc, cr, rfl, hS, hl, ⟨k0, k1⟩, n0, n24, hl2, prc, htc, q⟩ := h
    refine ⟨_, (@pss_cons _ _ _ _ _ (@ps_set _ _ 4 _ _ _ _ sc_l_next.nd rfl (Or.inl rfl) (@pe_callH _ _ _ _ _ _ _ _ _ _ C_l_mixed (hr.mono (by decide)) rfl (@pa_cons _ _ _ _ _ (pv 0) (@pa_cons _ _ _ _ _ (pv 1) (@pa_cons _ _ _ _ _ pe_int pa_nil (by rfl)) (by rfl)) (by rfl)) (by decide) (by rfl) (by rfl)) (by rfl) (by first | exact Or.inl rfl | exact Or.inr rfl))
      (@pss_cons _ _ _ _ _ (@ps_if _ _ _ _ _ _ _ _ (PW.pt (pw_or (@pt_cmpR _ _ _ _ _ _ _ _ op_lt (@pe_op _ _ _ _ _ _ _ _ op_mod (pv 4) pe_int) pe_int (nomark _)) (pw_or1 (@pt_cmpR _ _ _ _ _ _ _ _ op_eq (pe_callB call_len_seq (by rfl) T.b_len PySem.boot_len (@pa_cons _ _ _ _ _ (pv 3) pa_nil (by rfl))) pe_int (nomark _)))))
        (@pss_one _ _ _ (@ps_ret _ _ _ _ (@pe_callH _ _ _ _ _ _ _ _ _ _ C_l_sized (hr.mono (by decide)) rfl (@pa_cons _ _ _ _ _ (pv 0) (@pa_cons _ _ _ _ _ (pv 1) (@pa_cons _ _ _ _ _ pe_int (@pa_cons _ _ _ _ _ (pv 2) (@pa_cons _ _ _ _ _ (@pe_op _ _ _ _ _ _ _ _ op_mod (@pe_callH _ _ _ _ _ _ _ _ _ _ C_l_mixed (hr.mono (by decide)) rfl (@pa_cons _ _ _ _ _ (pv 0) (@pa_cons _ _ _ _ _ (pv 1) (@pa_cons _ _ _ _ _ pe_int pa_nil (by rfl)) (by rfl)) (by rfl)) (by decide) (by rfl) (by rfl)) (@pe_op _ _ _ _ _ _ _ _ op_add (pv 2) pe_int)) pa_nil (by rfl)) (by rfl)) (by rfl)) (by rfl)) (by rfl)) (by decide) (by rfl) (by rfl))))
        pss_nil)
      (@pss_cons _ _ _ _ _ (@ps_set _ _ 5 _ _ _ _ sc_l_next.nd rfl (Or.inr rfl) (@pe_ix _ _ _ _ _ _ _ ix_list (pv 3) (@pe_op _ _ _ _ _ _ _ _ op_mod (@pe_op _ _ _ _ _ _ _ _ op_fdiv (pv 4) pe_int) (pe_callB call_len_seq (by rfl) T.b_len PySem.boot_len (@pa_cons _ _ _ _ _ (pv 3) pa_nil (by rfl)))) (fun _ _ => rfl)) (by rfl) (by first | exact Or.inl rfl | exact Or.inr rfl))
      (@pss_cons _ _ _ _ _ (@ps_if _ _ _ _ _ _ _ _ (@pt_cmpR _ _ _ _ _ _ _ _ op_lt (@pe_op _ _ _ _ _ _ _ _ op_mod (pv 4) pe_int) pe_int (nomark _))
        (@pss_one _ _ _ (@ps_ret _ _ _ _ (@pe_callH _ _ _ _ _ _ _ _ _ _ C_l_changed (hr.mono (by decide)) rfl (@pa_cons _ _ _ _ _ (pv 2) (@pa_cons _ _ _ _ _ (pv 5) (@pa_cons _ _ _ _ _ (@pe_callH _ _ _ _ _ _ _ _ _ _ C_l_change (hr.mono (by decide)) rfl (@pa_cons _ _ _ _ _ (pv 0) (@pa_cons _ _ _ _ _ (pv 1) (@pa_cons _ _ _ _ _ pe_int (@pa_cons _ _ _ _ _ (pv 2) pa_nil (by rfl)) (by rfl)) (by rfl)) (by rfl)) (by decide) (by rfl) (by rfl)) pa_nil (by rfl)) (by rfl)) (by rfl)) (by decide) (by rfl) (by rfl))))
        pss_nil)
      (@pss_cons _ _ _ _ _ (@ps_if _ _ _ _ _ _ _ _ (@pt_cmpR _ _ _ _ _ _ _ _ op_eq (@pe_op _ _ _ _ _ _ _ _ op_mod (pv 4) pe_int) pe_int (nomark _))
        (@pss_one _ _ _ (@ps_ret _ _ _ _ (pe_callTy call_tuple_of (by rfl) T.b_tuple PyProof.Rows.boot_tuple (@pa_cons _ _ _ _ _ (pe_comp (ys := ["_law_one"]) (js := [5]) ⟨by rfl, of_decide_eq_true (by kernel_rfl), of_decide_eq_true (by kernel_rfl), by rfl, of_decide_eq_true (by kernel_rfl), of_decide_eq_true (by kernel_rfl), by rfl, of_decide_eq_true (by kernel_rfl)⟩ rfl (pi_range1 rfl T.b_range (@pa_cons _ _ _ _ _ (pv 2) pa_nil (by rfl))) (fun _ _ _ _ _ => (pts_one (@pt_cmpR _ _ _ _ _ _ _ _ (knot_seq (K := K) rfl) (pv 0) (pv 1) rfl))) (fun _ _ _ _ _ => (pv 0))) pa_nil (by rfl)))))
        pss_nil)
      (@pss_one _ _ _ (@ps_ret _ _ _ _ (@pe_callH _ _ _ _ _ _ _ _ _ _ C_l_sized (hr.mono (by decide)) rfl (@pa_cons _ _ _ _ _ (pv 0) (@pa_cons _ _ _ _ _ (pv 1) (@pa_cons _ _ _ _ _ pe_int (@pa_cons _ _ _ _ _ (pv 2) (@pa_cons _ _ _ _ _ (pe_callB call_len_seq (by rfl) T.b_len PySem.boot_len (@pa_cons _ _ _ _ _ (pv 5) pa_nil (by rfl))) pa_nil (by rfl)) (by rfl)) (by rfl)) (by rfl)) (by rfl)) (by decide) (by rfl) (by rfl))))))))), ?_⟩
    set_option simprocs false in try dsimp only [cxOf, Cx.nox, Cx.wish]
    refine seqL6 ?_
    intro u6 u5 u4 u3 u2
    have hm : (0 : Int) < n + 1 := by omega
    refine ⟨_, rfl, _, rfl, a, ns, k, 20, rfl, hS, hl, ⟨by omega, by omega⟩, ⟨by decide, by decide⟩, fun c c0 c1 => ?_⟩
    apply joinP
    case h1 =>
      intro A0
      refine ⟨_, rfl, _, _, rfl, rfl, (by show (0 : Int) < 8; decide), _, _, rfl, rfl, _, rfl, if2 (fun e1 => ifp rfl A0) (fun e1 => ⟨_, rfl, l, _, rfl, .inl (SqL.of hl2), rfl, _, rfl, if2 (fun e2 => A0) (fun e2 => ?_)⟩)⟩
      have lw : wc.length = cr.length := prd_len prc
      have dpos : (0 : Int) < (wc.length : Int) := by
        have : wc.length ≠ 0 := fun z => of_eqF e2 (by rw [z]; rfl)
        omega
      have j0 := mod_lo (c / 8) dpos
      have j1 := mod_hi (c / 8) dpos
      obtain ⟨j, ej⟩ : ∃ j : Nat, c / 8 % (wc.length : Int) = (j : Int) := ⟨(c / 8 % (wc.length : Int)).toNat, by omega⟩
      have hj : j < cr.length := by omega
      obtain ⟨x, hx, p, rfl, hp⟩ := prd_get prc (List.getElem?_eq_getElem hj)
      have ht := htc _ (List.getElem_mem hj)
      generalize cr[j] = cs at hp ht
      have hcl := ht.len
      have hat : atI wc (c / 8 % (wc.length : Int)) = some (.ref p) := by rw [ej]; exact atI_nat hx
      refine ⟨_, rfl, _, rfl, _, _, rfl, rfl, ⟨by decide, by decide⟩, _, rfl, l, _, rfl, .inl (SqL.of hl2), _, _, rfl, rfl, dpos, l, _, _, _, rfl, rfl, SqL.of hl2, hat, ?_⟩
      refine ⟨_, rfl, _, _, rfl, rfl, (by show (0 : Int) < 8; decide), _, _, rfl, rfl, _, rfl, if2 (fun _ => ?_) (fun _ => ?_)⟩
      · refine ⟨_, rfl, _, rfl, _, rfl, _, rfl, _, rfl, a, ns, k, 23, n, rfl, hS, hl, ⟨by omega, by omega⟩, ⟨by decide, by decide⟩, n0, fun t m p3 H5 m0 m1 s5 p30 h3 => ?_⟩
        exact ⟨n, p, cs, p3, t, m, rfl, SqT.of (s5 _ _ hp), h3, n0, n24, ht, fun r H6 s6 g1 => q _ (img_tones _ _ _ _) r H6 (s5.trans s6) g1⟩
      refine ⟨_, rfl, _, _, rfl, rfl, (by show (0 : Int) < 8; decide), rfl, _, rfl, if2 (fun _ => ?_) (fun _ => ?_)⟩
      · refine ⟨_, rfl, n, rfl, by omega, by omega, comp_int (rng n) V.int (fun b => !decide (b ∈ cs)) id (it_range H 0 n.toNat) (fun b H' hb s Q2 h => ?_) (fun b H' _ _ s Q2 h => ⟨_, rfl, h H' (Same.refl _)⟩) ?_ fun D H1 hD s1 hL => ?_⟩
        · refine ⟨_, rfl, _, rfl, p, _, rfl, .inr (SqT.of (s _ _ hp)), rfl, flat_ints _, _, rfl, ?_⟩
          show Q2 (!inV (V.int b) (cs.map V.int)) H'
          rw [inV_int]
          exact h H' (Same.refl _)
        · rw [rng_len]; exact fit1000 (by omega)
        rw [List.map_id] at hL
        exact ⟨D, _, rfl, .inl ⟨SqL.of hL, fun r r0 => q _ (cw_tones n fun b => !decide (b ∈ cs)) r _ (s1.trans (Same.new r0)) upd_same⟩⟩
      · refine ⟨_, rfl, _, rfl, _, rfl, _, rfl, p, _, rfl, .inr (SqT.of hp), a, ns, k, 24, n, _, rfl, hS, hl, ⟨by omega, by omega⟩, ⟨by decide, by decide⟩, n0, n24, (by rw [List.length_map]; omega), (by rw [List.length_map]; omega), fun g lg r H5 s5 h5 => q _ (cw_tones n g) r H5 s5 h5⟩
    case h2 =>
      exact ⟨_, rfl, _, rfl, _, rfl, _, rfl, _, rfl, a, ns, k, 22, rfl, hS, hl, ⟨by omega, by omega⟩, ⟨by decide, by decide⟩, fun d d0 d1 => ⟨_, rfl, _, _, rfl, rfl, _, _, rfl, rfl, hm, a, ns, k, 21, n, _, rfl, hS, hl, ⟨by omega, by omega⟩, ⟨by decide, by decide⟩, n0, n24, mod_lo d hm, (by have := mod_hi d hm; omega), fun g lg r H5 s5 h5 => q _ (cw_tones n g) r H5 s5 h5⟩⟩
set_option maxHeartbeats 8000000 in
theorem ok_l_alike {f : Addr} {fd : FuncData} (F : Fun K "_law_alike" "_law_alike" s_l_alike f fd) (T : Txt K mg) (C_l_changed : Has P w K mg base 2 "_law_changed" ["_law_n", "_law_crowd_here", "_law_change_here"] (sp_l_changed w K)) (C_l_changes : Has P w K mg base 1 "_law_changes" ["_law_n"] (sp_l_changes w K)) : FnOk P w K mg base CX0 3 f fd ["_law_n", "_law_one", "_law_other"] (sp_l_alike w K) := by
  refine F.ok sc_l_alike (fun vs H Q E h => ?_) (fun cdv A outer s H vs Q E hr h => ?_)
  · obtain ⟨n, p, cs, p', ds, rfl, hp, hp', n3, n24, ht, q⟩ := h
    rfl
  · obtain ⟨n, p, cs, p', ds, rfl, hp, hp', n3, n24, ht, q⟩ := h
    refine ⟨_, (@pss_cons _ _ _ _ _ (ps_for PassesOwn.never rfl (pi_list (@pe_callH _ _ _ _ _ _ _ _ _ _ C_l_changes (hr.mono (by decide)) rfl (@pa_cons _ _ _ _ _ (pv 0) pa_nil (by rfl)) (by decide) (by rfl) (by rfl))) (pg_name (i := 3) sc_l_alike.nd rfl (Or.inl rfl))
        (@pss_one _ _ _ (@ps_if _ _ _ _ _ _ _ _ (@pt_cmpR _ _ _ _ _ _ _ _ (op_eqT hr.units0) (@pe_callH _ _ _ _ _ _ _ _ _ _ C_l_changed (hr.mono (by decide)) rfl (@pa_cons _ _ _ _ _ (pv 0) (@pa_cons _ _ _ _ _ (pv 1) (@pa_cons _ _ _ _ _ (pv 3) pa_nil (by rfl)) (by rfl)) (by rfl)) (by decide) (by rfl) (by rfl)) (pv 2) (nomark _))
          (@pss_one _ _ _ (@ps_ret _ _ _ _ pe_bl))
          pss_nil)))
      (@pss_one _ _ _ (@ps_ret _ _ _ _ pe_bl))), ?_⟩
    set_option simprocs false in try dsimp only [cxOf, Cx.nox, Cx.wish]
    have hn : 0 < n := by omega
    refine ⟨_, rfl, n, rfl, n3, n24, fun l5 ws5 H5 l50 s5 h5 pr5 => ?_⟩
    have lw5 : ws5.length = (allC n).length := prd_len pr5
    refine ⟨l5, rfl, ⟨_, SqL.of h5⟩, for_list (xs := ws5) (fun j σ G2 => ∃ (w : Option V), σ = [some (.int n), some (.ref p), some (.ref p'), w] ∧ Same H5 G2 ∧ ∀ c ∈ (allC n).take j, imgC n c cs ≠ ds) ⟨_, rfl, Same.refl _, fun c hc => by simp at hc⟩ ?_ ?_ ?_⟩
    · rintro j σ G2 _ ⟨w, rfl, sG2, _⟩
      exact SqL.of (sG2 _ _ h5)
    · rintro j x σ G2 hx ⟨w, rfl, sG2, no⟩
      have hj : j < (allC n).length := by
        rw [← lw5]
        exact (List.getElem?_eq_some_iff.mp hx).1
      obtain ⟨x', g, pc, e, hpc⟩ := prd_get pr5 (List.getElem?_eq_getElem hj)
      rw [hx] at g
      cases g
      cases e
      have hm := List.getElem_mem hj
      have s9 := s5.trans sG2
      refine ⟨_, rfl, _, rfl, _, rfl, n, p, cs, pc, (allC n)[j].1, (allC n)[j].2, rfl, SqT.of (s9 _ _ hp), sG2 _ _ hpc, hn, n24, ht, fun r H6 s6 h6 => ?_⟩
      refine ⟨_, rfl, r, p', _, _, rfl, rfl, SqT.of h6, SqT.of (s6 _ _ (s9 _ _ hp')), plain_ints _, plain_ints _, _, rfl, ?_⟩
      rw [dec_ints]
      refine if2 (fun e => ?_) (fun e => ?_)
      · have := q H6 (s9.trans s6)
        rwa [decide_eq_true (List.length_pos_of_mem (wys_mem.mpr ⟨hm, of_decide_eq_true e⟩))] at this
      · refine ⟨_, rfl, sG2.trans s6, fun c hc => ?_⟩
        rw [List.take_succ, List.getElem?_eq_getElem hj] at hc
        rcases List.mem_append.mp hc with z | z
        · exact no c z
        · have : c = (allC n)[j] := by simpa using z
          rw [this]
          exact of_decide_eq_false e
    · rintro σ G2 ⟨w, rfl, sG2, no⟩
      have := q G2 (s5.trans sG2)
      rw [decide_eq_false (fun z => ?_)] at this
      · exact this
      · have hm := wys_mem.mp (List.getElem_mem z)
        rw [lw5, List.take_length] at no
        exact no _ hm.1 hm.2
set_option maxHeartbeats 8000000 in
theorem ok_l_pair {f : Addr} {fd : FuncData} (F : Fun K "_law_pair" "_law_pair" s_l_pair f fd) (T : Txt K mg) (C_Keeper_between : HasM P w K mg base CX0 4 "Keeper" "between" ["self", "one", "other"] (sp_Keeper_between w K)) (C_l_alike : Has P w K mg base 3 "_law_alike" ["_law_n", "_law_one", "_law_other"] (sp_l_alike w K)) (C_l_changed : Has P w K mg base 2 "_law_changed" ["_law_n", "_law_crowd_here", "_law_change_here"] (sp_l_changed w K)) (C_l_changes : Has P w K mg base 1 "_law_changes" ["_law_n"] (sp_l_changes w K)) (C_least_form : Has P w K mg base 4 "least_form" ["n", "crowd"] (sp_least_form w K)) : FnOk P w K mg base CX0 6 f fd ["_law_n", "_law_keeper", "_law_heard", "_law_kinds", "_law_one", "_law_other"] (sp_l_pair w K) := by
  refine F.ok sc_l_pair (fun vs H Q E h => ?_) (fun cdv A outer s H vs Q E hr h => ?_)
  · obtain ⟨lh, lk, i, j, k1, k2, c, d, wh, ks, p, n, cr, lc, lr, dk, dg, ra, ga, rfl, kp, hh, prh, hk, hi, hj, hki, hkj, f1, f2, tc, td, Lc, Ld, n3, n24, q⟩ := h
    rfl
  · obtain ⟨lh, lk, i, j, k1, k2, c, d, wh, ks, p, n, cr, lc, lr, dk, dg, ra, ga, rfl, kp, hh, prh, hk, hi, hj, hki, hkj, f1, f2, tc, td, Lc, Ld, n3, n24, q⟩ := h
    refine ⟨_, (@pss_cons _ _ _ _ _ (@ps_set _ _ 6 _ _ _ _ sc_l_pair.nd rfl (Or.inl rfl) (pe_methN C_Keeper_between (hr.mono (by decide)) pass0 (pv 1) (@pa_cons _ _ _ _ _ (pv 4) (@pa_cons _ _ _ _ _ (pv 5) pa_nil (by rfl)) (by rfl))) (by rfl) (by first | exact Or.inl rfl | exact Or.inr rfl))
      (@pss_cons _ _ _ _ _ (@ps_set _ _ 7 _ _ _ _ sc_l_pair.nd rfl (Or.inl rfl) (@pe_callH _ _ _ _ _ _ _ _ _ _ C_l_alike (hr.mono (by decide)) rfl (@pa_cons _ _ _ _ _ (pv 0) (@pa_cons _ _ _ _ _ (@pe_ix _ _ _ _ _ _ _ ix_list (pv 2) (pv 4) (fun _ _ => rfl)) (@pa_cons _ _ _ _ _ (@pe_ix _ _ _ _ _ _ _ ix_list (pv 2) (pv 5) (fun _ _ => rfl)) pa_nil (by rfl)) (by rfl)) (by rfl)) (by decide) (by rfl) (by rfl)) (by rfl) (by first | exact Or.inl rfl | exact Or.inr rfl))
      (@pss_cons _ _ _ _ _ (@ps_if _ _ _ _ _ _ _ _ (PW.pt (pw_or (@pt_cmpR _ _ _ _ _ _ _ _ op_ne (@pe_cmpR _ _ _ _ _ _ _ _ op_eq (@pe_ix _ _ _ _ _ _ _ ix_list (pv 3) (pv 4) (fun _ _ => rfl)) (@pe_ix _ _ _ _ _ _ _ ix_list (pv 3) (pv 5) (fun _ _ => rfl)) (nomark _)) (pv 7) (nomark _)) (pw_or1 (@pt_cmpR _ _ _ _ _ _ _ _ op_ne (@pe_cmpR _ _ _ _ _ _ _ _ op_gt (pe_callB call_len_seq (by rfl) T.b_len PySem.boot_len (@pa_cons _ _ _ _ _ (pv 6) pa_nil (by rfl))) pe_int (nomark _)) (pv 7) (nomark _)))))
        (@pss_one _ _ _ (@ps_ret _ _ _ _ pe_bl))
        pss_nil)
      (@pss_cons _ _ _ _ _ (ps_setC (i := 8) sc_l_pair.nd rfl rfl (ys := ["_law_n", "_law_heard", "_law_other", "_law_one"]) (js := [0, 2, 5, 4]) ⟨by rfl, of_decide_eq_true (by kernel_rfl), of_decide_eq_true (by kernel_rfl), by rfl, of_decide_eq_true (by kernel_rfl), of_decide_eq_true (by kernel_rfl), by rfl, of_decide_eq_true (by kernel_rfl)⟩ rfl (pi_list (@pe_callH _ _ _ _ _ _ _ _ _ _ C_l_changes (hr.mono (by decide)) rfl (@pa_cons _ _ _ _ _ (pv 0) pa_nil (by rfl)) (by decide) (by rfl) (by rfl))) (fun _ _ _ _ _ => (pts_one (@pt_cmpR _ _ _ _ _ _ _ _ (kop_eqT (K := K) rfl hr.units0) (@pe_callH _ _ _ _ _ _ _ _ _ _ C_l_changed (hr.mono (by decide)) rfl (@pa_cons _ _ _ _ _ (pv 1) (@pa_cons _ _ _ _ _ (@pe_ix _ _ _ _ _ _ _ (kix_list (K := K) rfl) (pv 2) (pv 4) (fun _ _ => rfl)) (@pa_cons _ _ _ _ _ (pv 0) pa_nil (by rfl)) (by rfl)) (by rfl)) (by decide) (by rfl) (by rfl)) (@pe_ix _ _ _ _ _ _ _ (kix_list (K := K) rfl) (pv 2) (pv 3) (fun _ _ => rfl)) (nomark _)))) (fun _ _ _ _ _ => (pv 0)))
      (@pss_cons _ _ _ _ _ (@ps_if _ _ _ _ _ _ _ _ (PW.pt (pw_or (pt_not (pt_val (pe_callB call_isinst (by rfl) T.b_isinstance PyProof.Rows.boot_isinstance (@pa_cons _ _ _ _ _ (pv 6) (@pa_cons _ _ _ _ _ (pe_bltn (v := V.ty "list") (by rfl) T.b_list PyProof.Rows.boot_list rfl) pa_nil (by rfl)) (by rfl))))) (pw_or1 (@pt_cmpR _ _ _ _ _ _ _ _ (op_neLd (d := 1) (R := PairOf StrR IntR) (eqok_pair eqok_str eqok_int) (by decide) hr.units) (pv 6) (pv 8) (nomark _)))))
        (@pss_one _ _ _ (@ps_ret _ _ _ _ pe_bl))
        pss_nil)
      (@pss_cons _ _ _ _ _ (@ps_set _ _ 9 _ _ _ _ sc_l_pair.nd rfl (Or.inl rfl) (pe_callTy call_list_of (by rfl) T.b_list PyProof.Rows.boot_list (@pa_cons _ _ _ _ _ (pv 6) pa_nil (by rfl))) (by rfl) (by first | exact Or.inl rfl | exact Or.inr rfl))
      (@pss_cons _ _ _ _ _ (ps_expr (pe_bm PySem.F.plainAttrs_list PySem.F.slot_list_append PySem.F.type_list_append mt_appendG (pv 6) (@pa_cons _ _ _ _ _ (@pe_tup _ _ _ _ _ (@pa_cons _ _ _ _ _ pe_str (@pa_cons _ _ _ _ _ pe_int pa_nil (by rfl)) (by rfl))) pa_nil (by rfl))))
      (@pss_cons _ _ _ _ _ (@ps_if _ _ _ _ _ _ _ _ (@pt_cmpR _ _ _ _ _ _ _ _ (op_neLd (d := 1) (R := PairOf StrR IntR) (eqok_pair eqok_str eqok_int) (by decide) hr.units) (pe_methN C_Keeper_between (hr.mono (by decide)) pass0 (pv 1) (@pa_cons _ _ _ _ _ (pv 4) (@pa_cons _ _ _ _ _ (pv 5) pa_nil (by rfl)) (by rfl))) (pv 9) (nomark _))
        (@pss_one _ _ _ (@ps_ret _ _ _ _ pe_bl))
        pss_nil)
      (@pss_one _ _ _ (@ps_ret _ _ _ _ (@pe_cmpR _ _ _ _ _ _ _ _ op_eq (@pe_cmpR _ _ _ _ _ _ _ _ (op_eqT hr.units0) (@pe_callH _ _ _ _ _ _ _ _ _ _ C_least_form (hr.mono (by decide)) rfl (@pa_cons _ _ _ _ _ (pv 0) (@pa_cons _ _ _ _ _ (@pe_ix _ _ _ _ _ _ _ ix_list (pv 2) (pv 4) (fun _ _ => rfl)) pa_nil (by rfl)) (by rfl)) (by decide) (by rfl) (by rfl)) (@pe_callH _ _ _ _ _ _ _ _ _ _ C_least_form (hr.mono (by decide)) rfl (@pa_cons _ _ _ _ _ (pv 0) (@pa_cons _ _ _ _ _ (@pe_ix _ _ _ _ _ _ _ ix_list (pv 2) (pv 5) (fun _ _ => rfl)) pa_nil (by rfl)) (by rfl)) (by decide) (by rfl) (by rfl)) (nomark _)) (pv 7) (nomark _)))))))))))), ?_⟩
    set_option simprocs false in try dsimp only [cxOf, Cx.nox, Cx.wish]
    refine seqL9 ?_
    intro u9 u8 u7 u6 u5 u4 u3 u2
    have hn : 0 < n := by omega
    refine ⟨_, rfl, p, _, rfl, kp.ins, kfs_between _ _ _ _ _, _, rfl, _, rfl, i, j, c, d, p, n, cr, lc, lr, dk, dg, ra, ga, rfl, kp, hi, hj, tc, n3, n24, fun l ws H1 l0 s1 h1 pr => ?_⟩
    obtain ⟨x, hx, pc, rfl, hpc⟩ := prd_get prh hi
    obtain ⟨y, hy, pd, rfl, hpd⟩ := prd_get prh hj
    have lc24 := tc.len
    have al := wys_pos hn tc td Lc Ld
    have ek : decide ((k1 : Int) = (k2 : Int)) = decide (lf n c = lf n d) := by
      rw [decide_eq_decide]
      constructor
      · intro e
        have e : k1 = k2 := by omega
        rw [e, f2] at f1
        exact (Option.some.inj f1).symm
      · intro e
        rw [← e] at f2
        have := (List.getElem?_inj (List.getElem?_eq_some_iff.mp f1).1 kp.fnd).mp (f1.trans f2.symm)
        omega
    have lws : ws.length = (wys n c d).length := prd_len pr
    refine ⟨_, rfl, _, rfl, _, rfl, lh, _, _, _, rfl, rfl, SqL.of (s1 _ _ hh), atI_nat hx, _, rfl, _, rfl, lh, _, _, _, rfl, rfl, SqL.of (s1 _ _ hh), atI_nat hy, n, pc, c, pd, d, rfl, s1 _ _ hpc, s1 _ _ hpd, n3, n24, tc, fun H2 s2 => ?_⟩
    have s12 := s1.trans s2
    have hh2 := s12 _ _ hh
    have hk2 := s12 _ _ hk
    have hc2 := s12 _ _ hpc
    have hd2 := s12 _ _ hpd
    have hl2 := s2 _ _ h1
    have ai : atI (ks.map V.int) (i : Int) = some (.int (k1 : Int)) := atI_nat (by rw [List.getElem?_map, hki]; rfl)
    have aj : atI (ks.map V.int) (j : Int) = some (.int (k2 : Int)) := atI_nat (by rw [List.getElem?_map, hkj]; rfl)
    obtain ⟨b, hb⟩ : ∃ b : Bool, b = decide (0 < (wys n c d).length) := ⟨_, rfl⟩
    rw [← hb] at al ⊢
    refine ⟨_, rfl, _, rfl, lk, _, _, _, rfl, rfl, SqL.of hk2, ai, _, rfl, _, rfl, lk, _, _, _, rfl, rfl, SqL.of hk2, aj, rfl, _, rfl, rfl, _, rfl, ifn (notF (decide_eq_true (congrArg V.bl ?_))) ?_⟩
    · rw [← al, ← ek]
      exact decide_eq_decide.mpr ⟨fun z => V.int.inj z, fun z => by rw [z]⟩
    refine ⟨_, rfl, l, _, rfl, .inl (SqL.of hl2), _, _, rfl, rfl, _, rfl, rfl, _, rfl, ifn (notF (decide_eq_true (congrArg V.bl ?_))) ?_⟩
    · rw [hb, lws, decide_eq_decide]
      omega
    refine ⟨_, rfl, n, rfl, n3, n24, fun l5 ws5 H5 l50 s5 h5 pr5 => ?_⟩
    refine ⟨l5, rfl, ⟨_, SqL.of h5⟩, comp_prd ws5 (allC n) ChgR (fun c' => decide (img n c'.1 c'.2 c = d)) id ChgR (fun _ _ _ _ t r => r.mono t) (fun _ _ _ _ t r => r.mono t) (SqL.of h5) pr5 (fun v c' H' hc r s Q2 h => ?_) (fun v c' H' hc r hp s Q2 h => ⟨_, rfl, h _ H' (Same.refl _) r⟩) (by rw [allC_len]; exact fit1000 (by omega)) fun D us H6 hD s6 hL pr2 => ?_⟩
    · obtain ⟨pv, rfl, hpv⟩ := r
      have s0 := s5.trans s
      refine ⟨_, rfl, _, rfl, _, rfl, lh, _, _, _, rfl, rfl, SqL.of (s0 _ _ hh2), atI_nat hx, _, rfl, n, pc, c, pv, c'.1, c'.2, rfl, SqT.of (s0 _ _ hc2), hpv, by omega, n24, tc, fun r H3 s3 h3 => ?_⟩
      refine ⟨_, rfl, _, rfl, lh, _, _, _, rfl, rfl, SqL.of (s3 _ _ (s0 _ _ hh2)), atI_nat hy, r, pd, _, _, rfl, rfl, SqT.of h3, SqT.of (s3 _ _ (s0 _ _ hd2)), plain_ints _, plain_ints _, _, rfl, ?_⟩
      show Q2 (decide ((img n c'.1 c'.2 c).map V.int = d.map V.int)) H3
      rw [dec_ints]
      exact h H3 s3
    rw [List.map_id] at pr2
    have s26 := s5.trans s6
    have hl6 := s26 _ _ hl2
    have pr6 := prd_imp (fun _ _ r => ChgR.mono (s2.trans s26).tk r) pr
    refine ⟨_, rfl, _, "list", _, _, rfl, .lst hl6, kit_same K _, true, rfl, ifn rfl ?_⟩
    refine ⟨_, rfl, _, rfl, l, D, _, _, _, _, rfl, rfl, SqL.of hl6, SqL.of hL, chg_pair pr6, chg_pair pr2, _, rfl, ifn (notF (decide_eq_true rfl)) ?_⟩
    have s06 := s12.trans s26
    refine ⟨_, rfl, l, _, rfl, .inl (SqL.of hl6), fun m m0 => ?_⟩
    obtain ⟨s7, hm7⟩ := new_all (o := .lst ws) m0
    generalize upd H6 m (.lst ws) = H7 at s7 hm7
    have hl7 := s7 _ _ hl6
    have lm : m ≠ l := fun e => by rw [e, hl6] at m0; cases m0
    have lw48 : ws.length ≤ 48 := by
      rw [lws]
      refine Nat.le_trans (List.length_filter_le _ _) ?_
      rw [allC_len]; omega
    refine ⟨_, rfl, .inl ⟨rfl, _, SqL.of hl7⟩, two_fit, fun r r0 => ?_⟩
    obtain ⟨s8, hr8⟩ := new_all (o := .tup [V.str "turn", V.int 0]) r0
    generalize upd H7 r (.tup [V.str "turn", V.int 0]) = H8 at s8 hr8
    refine ⟨l, _, _, rfl, rfl, s8 _ _ hl7, fit999 (by omega), fun H9 v9 h9 => ?_⟩
    have S9 : Same H H9 := fun b o e => v9 b o (fun z => by rw [z, l0] at e; cases e) (s8 _ _ (s7 _ _ (s06 _ _ e)))
    have kp9 := kp.same S9
    have hm9 := v9 _ _ lm (s8 _ _ hm7)
    have tk69 : TupKeep H6 H9 := fun b o e => v9 _ _ (ne_of e hl6 (fun z => nomatch z)) (s8 _ _ (s7 _ _ e))
    refine ⟨_, rfl, p, _, rfl, kp9.ins, kfs_between _ _ _ _ _, _, rfl, _, rfl, i, j, c, d, p, n, cr, lc, lr, dk, dg, ra, ga, rfl, kp9, hi, hj, tc, n3, n24, fun l7 ws7 H10 l70 s10 h10 pr10 => ?_⟩
    have pr0 := prd_imp (fun _ _ r => ChgR.mono (tk69.trans s10.tk) r) pr6
    refine ⟨_, rfl, l7, m, _, _, _, _, rfl, rfl, SqL.of h10, SqL.of (s10 _ _ hm9), chg_pair pr10, chg_pair pr0, _, rfl, ifn (notF (decide_eq_true rfl)) ?_⟩
    have S0 := S9.trans s10
    refine ⟨_, rfl, _, rfl, _, rfl, lh, _, _, _, rfl, rfl, SqL.of (S0 _ _ hh), atI_nat hx, n, pc, c, rfl, SqT.of (S0 _ _ hpc), n3, n24, tc, fun g1 lg1 r1 H11 s11 h11 => ?_⟩
    have S1 := S0.trans s11
    refine ⟨_, rfl, _, rfl, _, rfl, lh, _, _, _, rfl, rfl, SqL.of (S1 _ _ hh), atI_nat hy, n, pd, d, rfl, SqT.of (S1 _ _ hpd), n3, n24, td, fun g2 lg2 r2 H12 s12' h12 => ?_⟩
    have al2 := wys_pos hn tc td lg1 lg2
    refine ⟨r1, r2, _, _, rfl, rfl, SqT.of (s12' _ _ h11), SqT.of h12, plain_ints _, plain_ints _, ?_⟩
    rw [dec_ints, al2, ← hb]
    refine ⟨_, rfl, rfl, ?_⟩
    rw [decide_eq_true rfl]
    exact q _ (S1.trans s12')
set_option maxHeartbeats 8000000 in
theorem ok_law {f : Addr} {fd : FuncData} (F : Fun K "law" "law" s_law f fd) (T : Txt K mg) (C_Keeper___init__ : HasMk P w K mg base 1 "Keeper" ["self", "n"] (sp_Keeper___init__ w K)) (C_Keeper_many : HasM P w K mg base CX0 1 "Keeper" "many" ["self"] (sp_Keeper_many w K)) (C_Keeper_told : HasM P w K mg base CX0 7 "Keeper" "told" ["self", "crowd"] (sp_Keeper_told w K)) (C_l_changed : Has P w K mg base 2 "_law_changed" ["_law_n", "_law_crowd_here", "_law_change_here"] (sp_l_changed w K)) (C_l_mixed : Has P w K mg base 2 "_law_mixed" ["_law_script", "_law_k", "_law_salt"] (sp_l_mixed w K)) (C_l_next : Has P w K mg base 5 "_law_next" ["_law_script", "_law_k", "_law_n", "_law_heard"] (sp_l_next w K)) (C_l_pair : Has P w K mg base 6 "_law_pair" ["_law_n", "_law_keeper", "_law_heard", "_law_kinds", "_law_one", "_law_other"] (sp_l_pair w K)) (C_l_wheel : Has P w K mg base 3 "_law_wheel" ["_law_script", "_law_most"] (sp_l_wheel w K)) : FnOk P w K mg base CX0 8 f fd ["_law_script"] (sp_law w K) := by
  refine F.ok sc_law (fun vs H Q E h => ?_) (fun cdv A outer s H vs Q E hr h => ?_)
  · obtain ⟨a, ns, rfl, hS, hl, q⟩ := h
    rfl
  · obtain ⟨a, ns, rfl, hS, hl, q⟩ := h
    refine ⟨_, (@pss_cons _ _ _ _ _ (@ps_set _ _ 1 _ _ _ _ sc_law.nd rfl (Or.inl rfl) (@pe_callH _ _ _ _ _ _ _ _ _ _ C_l_wheel (hr.mono (by decide)) rfl (@pa_cons _ _ _ _ _ (pv 0) (@pa_cons _ _ _ _ _ pe_int pa_nil (by rfl)) (by rfl)) (by decide) (by rfl) (by rfl)) (by rfl) (by first | exact Or.inl rfl | exact Or.inr rfl))
      (@pss_cons _ _ _ _ _ (@ps_if _ _ _ _ _ _ _ _ (@pt_cmpR _ _ _ _ _ _ _ _ op_eq (@pe_op _ _ _ _ _ _ _ _ op_mod (@pe_callH _ _ _ _ _ _ _ _ _ _ C_l_mixed (hr.mono (by decide)) rfl (@pa_cons _ _ _ _ _ (pv 0) (@pa_cons _ _ _ _ _ pe_int (@pa_cons _ _ _ _ _ pe_int pa_nil (by rfl)) (by rfl)) (by rfl)) (by decide) (by rfl) (by rfl)) pe_int) pe_int (nomark _))
        (@pss_one _ _ _ (@ps_set _ _ 1 _ _ _ _ sc_law.nd rfl (Or.inl rfl) (@pe_op _ _ _ _ _ _ _ _ op_add pe_int (@pe_op _ _ _ _ _ _ _ _ op_mod (@pe_callH _ _ _ _ _ _ _ _ _ _ C_l_mixed (hr.mono (by decide)) rfl (@pa_cons _ _ _ _ _ (pv 0) (@pa_cons _ _ _ _ _ pe_int (@pa_cons _ _ _ _ _ pe_int pa_nil (by rfl)) (by rfl)) (by rfl)) (by decide) (by rfl) (by rfl)) pe_int)) (by rfl) (by first | exact Or.inl rfl | exact Or.inr rfl)))
        pss_nil)
      (@pss_cons _ _ _ _ _ (@ps_set _ _ 2 _ _ _ _ sc_law.nd rfl (Or.inl rfl) (pe_makeN C_Keeper___init__ (hr.mono (by decide)) rfl (@pa_cons _ _ _ _ _ (pv 1) pa_nil (by rfl))) (by rfl) (by first | exact Or.inl rfl | exact Or.inr rfl))
      (@pss_cons _ _ _ _ _ (@ps_set _ _ 3 _ _ _ _ sc_law.nd rfl (Or.inl rfl) (@pe_lst _ _ _ _ pa_nil) (by rfl) (by first | exact Or.inl rfl | exact Or.inr rfl))
      (@pss_cons _ _ _ _ _ (@ps_set _ _ 4 _ _ _ _ sc_law.nd rfl (Or.inl rfl) (@pe_lst _ _ _ _ pa_nil) (by rfl) (by first | exact Or.inl rfl | exact Or.inr rfl))
      (@pss_cons _ _ _ _ _ (ps_for PassesOwn.never rfl (pi_range1 rfl T.b_range (@pa_cons _ _ _ _ _ (pe_callB (call_min2 rfl) (by rfl) T.b_min PyProof.Rows.boot_min (@pa_cons _ _ _ _ _ (pe_callB (call_max2 rfl) (by rfl) T.b_max PyProof.Rows.boot_max (@pa_cons _ _ _ _ _ (pe_callB call_len_seq (by rfl) T.b_len PySem.boot_len (@pa_cons _ _ _ _ _ (pv 0) pa_nil (by rfl))) (@pa_cons _ _ _ _ _ pe_int pa_nil (by rfl)) (by rfl))) (@pa_cons _ _ _ _ _ (@pe_ix _ _ _ _ _ _ _ ix_list (@pe_lst _ _ _ _ (@pa_cons _ _ _ _ _ pe_int (@pa_cons _ _ _ _ _ pe_int pa_nil (by rfl)) (by rfl))) (pe_callTy call_int1 (by rfl) T.b_int PyProof.Rows.boot_int (@pa_cons _ _ _ _ _ (@pe_cmpR _ _ _ _ _ _ _ _ op_gt (pv 1) pe_int (nomark _)) pa_nil (by rfl))) (fun _ _ => rfl)) pa_nil (by rfl)) (by rfl))) pa_nil (by rfl))) (pg_name (i := 5) sc_law.nd rfl (Or.inl rfl))
        (@pss_cons _ _ _ _ _ (@ps_set _ _ 6 _ _ _ _ sc_law.nd rfl (Or.inl rfl) (@pe_callH _ _ _ _ _ _ _ _ _ _ C_l_next (hr.mono (by decide)) rfl (@pa_cons _ _ _ _ _ (pv 0) (@pa_cons _ _ _ _ _ (pv 5) (@pa_cons _ _ _ _ _ (pv 1) (@pa_cons _ _ _ _ _ (pv 3) pa_nil (by rfl)) (by rfl)) (by rfl)) (by rfl)) (by decide) (by rfl) (by rfl)) (by rfl) (by first | exact Or.inl rfl | exact Or.inr rfl))
        (@pss_cons _ _ _ _ _ (@ps_set _ _ 7 _ _ _ _ sc_law.nd rfl (Or.inl rfl) (pe_methN C_Keeper_told (hr.mono (by decide)) pass0 (pv 2) (@pa_cons _ _ _ _ _ (pv 6) pa_nil (by rfl))) (by rfl) (by first | exact Or.inl rfl | exact Or.inr rfl))
        (@pss_cons _ _ _ _ _ (@ps_if _ _ _ _ _ _ _ _ (PW.pt (pw_or (pt_not (pt_val (pe_callB call_isinst (by rfl) T.b_isinstance PyProof.Rows.boot_isinstance (@pa_cons _ _ _ _ _ (pv 7) (@pa_cons _ _ _ _ _ (pe_bltn (v := V.ty "tuple") (by rfl) T.b_tuple PyProof.Rows.boot_tuple rfl) pa_nil (by rfl)) (by rfl))))) (pw_or (@pt_cmpR _ _ _ _ _ _ _ _ op_ne (pe_callB call_len_seq (by rfl) T.b_len PySem.boot_len (@pa_cons _ _ _ _ _ (pv 7) pa_nil (by rfl))) pe_int (nomark _)) (pw_or1 (pt_not (pt_val (pe_callB call_isinst (by rfl) T.b_isinstance PyProof.Rows.boot_isinstance (@pa_cons _ _ _ _ _ (@pe_ix _ _ _ _ _ _ _ ix_tup (pv 7) pe_int (fun _ _ => rfl)) (@pa_cons _ _ _ _ _ (pe_bltn (v := V.ty "int") (by rfl) T.b_int PyProof.Rows.boot_int rfl) pa_nil (by rfl)) (by rfl)))))))))
          (@pss_one _ _ _ (@ps_ret _ _ _ _ pe_bl))
          pss_nil)
        (@pss_cons _ _ _ _ _ (ps_expr (pe_bm PySem.F.plainAttrs_list PySem.F.slot_list_append PySem.F.type_list_append mt_appendG (pv 3) (@pa_cons _ _ _ _ _ (pv 6) pa_nil (by rfl))))
        (@pss_cons _ _ _ _ _ (@ps_if _ _ _ _ _ _ _ _ (pt_not (pt_chain op_le op_le pe_int (@pe_ix _ _ _ _ _ _ _ ix_tup (pv 7) pe_int (fun _ _ => rfl)) (@pe_op _ _ _ _ _ _ _ _ op_add (pe_callB (call_maxL rfl) (by rfl) T.b_max PyProof.Rows.boot_max (@pa_cons _ _ _ _ _ (@pe_op _ _ _ _ _ _ _ _ op_cat (@pe_lst _ _ _ _ (@pa_cons _ _ _ _ _ (pe_un un_neg pe_int) pa_nil (by rfl))) (pv 4)) pa_nil (by rfl))) pe_int)))
          (@pss_one _ _ _ (@ps_ret _ _ _ _ pe_bl))
          pss_nil)
        (@pss_cons _ _ _ _ _ (ps_expr (pe_bm PySem.F.plainAttrs_list PySem.F.slot_list_append PySem.F.type_list_append mt_appendG (pv 4) (@pa_cons _ _ _ _ _ (@pe_ix _ _ _ _ _ _ _ ix_tup (pv 7) pe_int (fun _ _ => rfl)) pa_nil (by rfl))))
        (@pss_one _ _ _ (@ps_if _ _ _ _ _ _ _ _ (@pt_cmpR _ _ _ _ _ _ _ _ (op_neT hr.units0) (@pe_callH _ _ _ _ _ _ _ _ _ _ C_l_changed (hr.mono (by decide)) rfl (@pa_cons _ _ _ _ _ (pv 1) (@pa_cons _ _ _ _ _ (@pe_ix _ _ _ _ _ _ _ ix_list (pv 3) (pe_bm PySem.F.plainAttrs_list PySem.F.slot_list_index PySem.F.type_list_index mt_idxI (pv 4) (@pa_cons _ _ _ _ _ (@pe_ix _ _ _ _ _ _ _ ix_tup (pv 7) pe_int (fun _ _ => rfl)) pa_nil (by rfl))) (fun _ _ => rfl)) (@pa_cons _ _ _ _ _ (@pe_ix _ _ _ _ _ _ _ ix_tup (pv 7) pe_int (fun _ _ => rfl)) pa_nil (by rfl)) (by rfl)) (by rfl)) (by decide) (by rfl) (by rfl)) (pv 6) (nomark _))
          (@pss_one _ _ _ (@ps_ret _ _ _ _ pe_bl))
          pss_nil)))))))))
      (@pss_cons _ _ _ _ _ (ps_for PassesOwn.never rfl (pi_range1 rfl T.b_range (@pa_cons _ _ _ _ _ pe_int pa_nil (by rfl))) (pg_name (i := 5) sc_law.nd rfl (Or.inl rfl))
        (@pss_cons _ _ _ _ _ (@ps_set _ _ 8 _ _ _ _ sc_law.nd rfl (Or.inl rfl) (@pe_op _ _ _ _ _ _ _ _ op_mod (@pe_callH _ _ _ _ _ _ _ _ _ _ C_l_mixed (hr.mono (by decide)) rfl (@pa_cons _ _ _ _ _ (pv 0) (@pa_cons _ _ _ _ _ (pv 5) (@pa_cons _ _ _ _ _ pe_int pa_nil (by rfl)) (by rfl)) (by rfl)) (by decide) (by rfl) (by rfl)) (pe_callB call_len_seq (by rfl) T.b_len PySem.boot_len (@pa_cons _ _ _ _ _ (pv 3) pa_nil (by rfl)))) (by rfl) (by first | exact Or.inl rfl | exact Or.inr rfl))
        (@pss_cons _ _ _ _ _ (@ps_set _ _ 9 _ _ _ _ sc_law.nd rfl (Or.inl rfl) (@pe_op _ _ _ _ _ _ _ _ op_mod (@pe_callH _ _ _ _ _ _ _ _ _ _ C_l_mixed (hr.mono (by decide)) rfl (@pa_cons _ _ _ _ _ (pv 0) (@pa_cons _ _ _ _ _ (pv 5) (@pa_cons _ _ _ _ _ pe_int pa_nil (by rfl)) (by rfl)) (by rfl)) (by decide) (by rfl) (by rfl)) (pe_callB call_len_seq (by rfl) T.b_len PySem.boot_len (@pa_cons _ _ _ _ _ (pv 3) pa_nil (by rfl)))) (by rfl) (by first | exact Or.inl rfl | exact Or.inr rfl))
        (@pss_one _ _ _ (@ps_if _ _ _ _ _ _ _ _ (pt_not (pt_val (@pe_callH _ _ _ _ _ _ _ _ _ _ C_l_pair (hr.mono (by decide)) rfl (@pa_cons _ _ _ _ _ (pv 1) (@pa_cons _ _ _ _ _ (pv 2) (@pa_cons _ _ _ _ _ (pv 3) (@pa_cons _ _ _ _ _ (pv 4) (@pa_cons _ _ _ _ _ (pv 8) (@pa_cons _ _ _ _ _ (pv 9) pa_nil (by rfl)) (by rfl)) (by rfl)) (by rfl)) (by rfl)) (by rfl)) (by decide) (by rfl) (by rfl))))
          (@pss_one _ _ _ (@ps_ret _ _ _ _ pe_bl))
          pss_nil)))))
      (@pss_one _ _ _ (@ps_ret _ _ _ _ (@pe_cmpR _ _ _ _ _ _ _ _ op_eq (pe_meth0N C_Keeper_many (hr.mono (by decide)) pass0 (pv 2)) (pe_callB call_len_seq (by rfl) T.b_len PySem.boot_len (@pa_cons _ _ _ _ _ (pv 3) pa_nil (by rfl))) (nomark _))))))))))), ?_⟩
    set_option simprocs false in try dsimp only [cxOf, Cx.nox, Cx.wish]
    refine seqL8 ?_
    intro u8 u7 u6 u5 u4 u3 u2
    have hlen : (ns.map V.int).length = ns.length := List.length_map _
    refine ⟨_, rfl, a, ns, rfl, hS, hl, fun m m3 m24 => ?_⟩
    apply join2 (fun n => [some (.ref a), some (.int n), none, none, none, none, none, none, none, none]) H
    case h1 =>
      intro R
      refine ⟨_, rfl, a, ns, 1, 18, rfl, hS, hl, ⟨by decide, by decide⟩, ⟨by decide, by decide⟩, fun c c0 c1 => ?_⟩
      refine ⟨_, _, rfl, rfl, (by show (0 : Int) < 2; decide), rfl, _, rfl, if2 (fun _ => ?_) (fun _ => ?_)⟩
      rotate_left
      · exact R m m3 m24
      · refine ⟨_, rfl, a, ns, 1, 19, rfl, hS, hl, ⟨by decide, by decide⟩, ⟨by decide, by decide⟩, fun d d0 d1 => ?_⟩
        refine ⟨_, _, rfl, rfl, (by show (0 : Int) < 7; decide), _, _, rfl, rfl, ?_⟩
        exact R (6 + d % 7) (by omega) (by omega)
    case h2 =>
    intro n n3 n24
    have hn : 0 < n := by omega
    refine ⟨_, rfl, fun p H1 p0 s1 ip => ⟨p, n, rfl, ip, fun lc lr dk dg H2 v2 lc0 lr0 dk0 dg0 kp2 => ⟨rfl, ?_⟩⟩⟩
    refine ⟨(by show 0 ≤ sizeLine; decide), fun lh lh0 => ?_⟩
    obtain ⟨s3, h3⟩ := new_all (o := .lst []) lh0
    generalize upd H2 lh (.lst []) = H3 at s3 h3
    refine ⟨(by show 0 ≤ sizeLine; decide), fun lk lk0 => ?_⟩
    obtain ⟨s4, h4⟩ := new_all (o := .lst []) lk0
    generalize upd H3 lk (.lst []) = H4 at s4 h4
    have S2 : Same H H2 := s2_of p0 s1 v2
    have li0 : LI w K H H4 p lh lk n [] [] := LI.start p0 s1 v2 lc0 lr0 dk0 dg0 kp2 lh0 s3 h3 lk0 s4 h4
    have S4 := (S2.trans s3).trans s4
    obtain ⟨bd, hbd, b0, b63⟩ : ∃ bd : Int, atI [V.int 63, V.int 20] (if decide (12 < n) = true then 1 else 0) = some (.int bd) ∧ 0 < bd ∧ bd ≤ 63 := by
      cases decide (12 < n)
      · exact ⟨63, rfl, by decide, by decide⟩
      · exact ⟨20, rfl, by decide, by decide⟩
    refine ⟨_, rfl, a, _, rfl, .inl (S4.seq hS), _, _, rfl, two_fit, fun L L0 => ?_⟩
    obtain ⟨s5, h5⟩ := new_all (o := .lst [V.int 63, V.int 20]) L0
    generalize upd H4 L (.lst [V.int 63, V.int 20]) = H5 at s5 h5
    refine ⟨_, rfl, _, _, rfl, rfl, .inr ⟨_, rfl, L, _, _, _, rfl, rfl, SqL.of h5, hbd, _, _, rfl, ?_⟩⟩
    obtain ⟨N, hN, N4, N63⟩ : ∃ N : Nat, (if bd < (if 4 > (((ns.map V.int).length : Nat) : Int) then (4 : Int) else (((ns.map V.int).length : Nat) : Int)) then bd else (if 4 > (((ns.map V.int).length : Nat) : Int) then (4 : Int) else (((ns.map V.int).length : Nat) : Int))) = (N : Int) ∧ 0 < N ∧ N ≤ 63 := by
      have hl4 : (0 : Int) < (if 4 > (((ns.map V.int).length : Nat) : Int) then (4 : Int) else (((ns.map V.int).length : Nat) : Int)) := by split <;> omega
      generalize (if 4 > (((ns.map V.int).length : Nat) : Int) then (4 : Int) else (((ns.map V.int).length : Nat) : Int)) = q4 at hl4
      have : 0 < (if bd < q4 then bd else q4) ∧ (if bd < q4 then bd else q4) ≤ 63 := by split <;> omega
      exact ⟨(if bd < q4 then bd else q4).toNat, by omega, by omega, by omega⟩
    refine ⟨_, rfl, by rw [hN]; omega, by rw [hN]; omega, ?_⟩
    rw [hN, Int.toNat_natCast]
    refine for_range (fun i σ G => ∃ (v5 v6 v7 : Option V) (cr : List (List Int)) (ks : List Int), σ = [some (.ref a), some (.int n), some (.ref p), some (.ref lh), some (.ref lk), v5, v6, v7, none, none] ∧ LI w K H G p lh lk n cr ks ∧ cr.length = i) ⟨_, _, _, [], [], rfl, li0.same s5, rfl⟩ ?_ ?_
    · rintro i σ G hi ⟨v5, v6, v7, cr, ks, rfl, li, hlen2⟩
      refine seqL7 ?_; intro u7 u6 u5 u4 u3 u2
      obtain ⟨wh, lc, lr, dk, dg, ra, ga, kp, fr, S, h1, pr, h2, ne, f1, f2, ko, tn⟩ := li
      refine ⟨_, rfl, _, rfl, _, rfl, _, rfl, a, ns, _, n, lh, wh, cr, rfl, S.seq hS, hl, ⟨by omega, by omega⟩, hn, n24, h1, pr, fun c hc => (tn c hc).1, fun xs ht r1 G1 sg1 hr1 => ?_⟩
      have kp1 := kp.same sg1
      refine ⟨_, rfl, p, _, rfl, kp1.ins, kfs_told _ _ _ _ _, _, rfl, r1, xs, p, n, cr, lc, lr, dk, dg, ra, ga, rfl, kp1, hr1, ht, tn, n3, n24, by omega, fun k j f0 c ra' ga' r rc G2 Lst hk hj hf0 hc outs nw tk kp2 hr hrc => ?_⟩
      have S1 := S.trans sg1
      have SG2 := same_outs fr S1 outs
      have fr2 := fr_step fr S1 (sg1 _ _ h1) (sg1 _ _ h2) nw
      have nlh : lh ∉ ftA lc lr dk dg ra ga := fun z => (fr _ (List.mem_cons_of_mem _ z)).2.1 rfl
      have nlk : lk ∉ ftA lc lr dk dg ra ga := fun z => (fr _ (List.mem_cons_of_mem _ z)).2.2 rfl
      have hh2 := outs _ _ nlh (sg1 _ _ h1)
      have hk2 := outs _ _ nlk (sg1 _ _ h2)
      have pr2 := prd_imp (fun _ _ r => TupR.mono (sg1.tk.trans tk) r) pr
      have hr12 := tk _ _ hr1
      have lwh : wh.length = cr.length := prd_len pr
      refine ⟨_, rfl, _, "tuple", _, _, rfl, .tup hr, kit_same K _, true, rfl, ifn rfl ?_⟩
      refine ⟨_, rfl, r, _, rfl, .inr (SqT.of hr), rfl, _, rfl, ifn (neF rfl) ?_⟩
      refine ⟨_, rfl, r, _, _, _, rfl, rfl, SqT.of hr, rfl, _, "int", _, _, rfl, .int _, kit_same K _, true, rfl, ifn rfl ?_⟩
      refine ⟨_, rfl, .inl ⟨rfl, _, SqL.of hh2⟩, _, rfl, lh, _, _, rfl, rfl, hh2, (by rw [lwh]; exact small1000 (by omega)), fun G3 v3 h3 => ?_⟩
      have t23 : TupKeep G2 G3 := fun b o e => v3 _ _ (ne_of e hh2 (fun z => nomatch z)) e
      have hk3 := v3 _ _ (Ne.symm ne) hk2
      have hr3 := t23 _ _ hr
      refine ⟨_, rfl, r, _, _, _, rfl, rfl, SqT.of hr3, rfl, _, _, rfl, rfl, true, congrArg V.bl (decide_eq_true (by omega)), ifp rfl ?_⟩
      refine ⟨1, rfl, (by show 1 ≤ sizeLine; decide), fun L1 L10 => ?_⟩
      obtain ⟨s31, hL1⟩ := new_all (o := .lst [V.int (-1)]) L10
      generalize upd G3 L1 (.lst [V.int (-1)]) = G31 at s31 hL1
      have lks : ks.length = cr.length := ko.1
      refine ⟨_, rfl, L1, lk, _, _, rfl, rfl, hL1, s31 _ _ hk3, (by rw [List.length_map]; show 1 + ks.length ≤ sizeLine; exact fit1000 (by omega)), fun L2 L20 => ?_⟩
      obtain ⟨s32, hL2⟩ := new_all (o := .lst ([V.int (-1)] ++ ks.map V.int)) L20
      generalize upd G31 L2 (.lst ([V.int (-1)] ++ ks.map V.int)) = G4 at s32 hL2
      have s34 := s31.trans s32
      refine ⟨L2, (-1) :: ks, rfl, SqL.of hL2, Nat.succ_pos _, fun mx mem le => ?_⟩
      have kle := ko.max hk le
      refine ⟨_, _, rfl, rfl, _, _, rfl, rfl, _, rfl, ifn (notF (decide_eq_true kle)) ?_⟩
      have hk4 := s34 _ _ hk3
      have hr4 := s34 _ _ hr3
      refine ⟨_, rfl, .inl ⟨rfl, _, SqL.of hk4⟩, _, rfl, r, _, _, _, rfl, rfl, SqT.of hr4, rfl, lk, _, _, rfl, rfl, hk4, (by rw [List.length_map]; exact small1000 (by omega)), fun G5 v5' h5 => ?_⟩
      have h5 : G5 lk = some (.lst ((ks ++ [(k : Int)]).map V.int)) := by rw [List.map_append]; exact h5
      have t35 : TupKeep G3 G5 := fun b o e => v5' _ _ (ne_of e hk3 (fun z => nomatch z)) (s34 _ _ e)
      have t25 := t23.trans t35
      have hh5 := v5' _ _ ne (s34 _ _ h3)
      have ko5 := ko.snoc hk
      have tn5 : ∀ c ∈ cr ++ [xs], Tones n c ∧ Least n c (lf n c) := fun c hc => by
        rcases List.mem_append.mp hc with z | z
        · exact tn c z
        · rw [List.mem_singleton.mp z]
          exact ⟨ht, Lst⟩
      have pr5 : Paired (TupR G5) (wh ++ [V.ref r1]) (cr ++ [xs]) := prd_append (prd_imp (fun _ _ r => r.mono t25) pr2) (.cons ⟨r1, rfl, t25 _ _ hr12⟩ .nil)
      have li5 : LI w K H G5 p lh lk n (cr ++ [xs]) (ks ++ [(k : Int)]) := by
        refine ⟨_, lc, lr, dk, dg, ra', ga', kp2.keep (fun b hb o e => ?_) t25, fr2, fun b o e => ?_, hh5, pr5, h5, ne, f1, f2, ko5, tn5⟩
        · exact v5' _ _ (fr2 b hb).2.2 (s34 _ _ (v3 _ _ (fr2 b hb).2.1 e))
        · exact v5' _ _ (fun z => by rw [z, f2] at e; cases e) (s34 _ _ (v3 _ _ (fun z => by rw [z, f1] at e; cases e) (SG2 _ _ e)))
      obtain ⟨ij, mj, jl⟩ := ko5.first hk hj
      obtain ⟨y, hy, pf, rfl, hpf⟩ := prd_get pr5 hf0
      have hat : atI (wh ++ [V.ref r1]) (((ks ++ [(k : Int)]).idxOf (k : Int) : Nat) : Int) = some (.ref pf) := by rw [ij]; exact atI_nat hy
      have lk5 : (ks ++ [(k : Int)]).length ≤ 1000 := by rw [ko5.1, List.length_append, List.length_singleton]; omega
      have hr5 := t35 _ _ hr3
      have hrc5 := t25 _ _ hrc
      have e9 : img n c.1 c.2 f0 = xs := (wys_mem.mp (List.mem_of_getElem? hc)).2
      refine ⟨_, rfl, _, rfl, _, rfl, .inl ⟨rfl, _, SqL.of h5⟩, _, rfl, r, _, _, _, rfl, rfl, SqT.of hr5, rfl, lk, _, _, rfl, rfl, SqL.of h5, lk5, (fun x hx => ?_), mj, lh, _, _, _, rfl, rfl, SqL.of hh5, hat, _, rfl, r, _, _, _, rfl, rfl, SqT.of hr5, rfl, n, pf, f0, rc, c.1, c.2, rfl, SqT.of hpf, hrc5, hn, n24, (tn5 _ (List.mem_of_getElem? hf0)).1, fun r7 G7 s7 h7 => ?_⟩
      · have := ko5.small x hx
        rw [List.length_append, List.length_singleton] at this
        omega
      refine ⟨_, rfl, r7, r1, _, _, rfl, rfl, SqT.of h7, SqT.of (s7 _ _ (t25 _ _ hr12)), plain_ints _, plain_ints _, _, rfl, ifn (notF (decide_eq_true (congrArg _ e9))) ?_⟩
      exact ⟨_, _, _, cr ++ [xs], ks ++ [(k : Int)], rfl, li5.same s7, by rw [List.length_append, hlen2]; rfl⟩
    · rintro σ G ⟨v5, v6, v7, cr, ks, rfl, li, hlen2⟩
      obtain ⟨wh, lc, lr, dk, dg, ra, ga, kp, fr, S, h1, pr, h2, ne, f1, f2, ko, tn⟩ := li
      have lwh : wh.length = cr.length := prd_len pr
      have dpos : (0 : Int) < (wh.length : Int) := by omega
      refine ⟨8, rfl, by decide, by decide, for_range (n := 8) (fun i σ G2 => ∃ (v5 v8 v9 : Option V), σ = [some (.ref a), some (.int n), some (.ref p), some (.ref lh), some (.ref lk), v5, v6, v7, v8, v9] ∧ Same G G2) ⟨_, _, _, rfl, Same.refl _⟩ ?_ ?_⟩
      · rintro i σ G2 hi ⟨v5, v8, v9, rfl, sG⟩
        refine seqL3 ?_; intro u3 u2
        have SG := S.trans sG
        refine ⟨_, rfl, _, rfl, a, ns, _, 29, rfl, SG.seq hS, hl, ⟨by omega, by omega⟩, ⟨by decide, by decide⟩, fun x x0 x1 => ⟨_, rfl, lh, _, rfl, .inl (SqL.of (sG _ _ h1)), _, _, rfl, rfl, dpos, ?_⟩⟩
        refine ⟨_, rfl, _, rfl, a, ns, _, 30, rfl, SG.seq hS, hl, ⟨by omega, by omega⟩, ⟨by decide, by decide⟩, fun y y0 y1 => ⟨_, rfl, lh, _, rfl, .inl (SqL.of (sG _ _ h1)), _, _, rfl, rfl, dpos, ?_⟩⟩
        have i0 := mod_lo x dpos
        have i1 := mod_hi x dpos
        have j0 := mod_lo y dpos
        have j1 := mod_hi y dpos
        obtain ⟨i', ei⟩ : ∃ i' : Nat, x % (wh.length : Int) = (i' : Int) := ⟨(x % (wh.length : Int)).toNat, by omega⟩
        obtain ⟨j', ej⟩ : ∃ j' : Nat, y % (wh.length : Int) = (j' : Int) := ⟨(y % (wh.length : Int)).toNat, by omega⟩
        have hi' : i' < cr.length := by omega
        have hj' : j' < cr.length := by omega
        obtain ⟨k1, ek1, ef1⟩ := ko.2 i' _ (List.getElem?_eq_getElem hi')
        obtain ⟨k2, ek2, ef2⟩ := ko.2 j' _ (List.getElem?_eq_getElem hj')
        have t1 := tn _ (List.getElem_mem hi')
        have t2 := tn _ (List.getElem_mem hj')
        exact ⟨_, rfl, _, rfl, _, rfl, _, rfl, _, rfl, _, rfl, lh, lk, i', j', k1, k2, cr[i'], cr[j'], wh, ks, p, n, cr, lc, lr, dk, dg, ra, ga, (by show [V.int n, V.ref p, V.ref lh, V.ref lk, V.int (x % (wh.length : Int)), V.int (y % (wh.length : Int))] = _; rw [ei, ej]), kp.same sG, sG _ _ h1, prd_imp (fun _ _ r => r.mono sG.tk) pr, sG _ _ h2, List.getElem?_eq_getElem hi', List.getElem?_eq_getElem hj', ek1, ek2, ef1, ef2, t1.1, t2.1, t1.2, t2.2, n3, n24, fun H9 s9 => ⟨true, rfl, ifn rfl ⟨_, _, _, rfl, sG.trans s9⟩⟩⟩
      · rintro σ G2 ⟨v5, v8, v9, rfl, sG⟩
        refine ⟨_, rfl, p, _, rfl, (kp.same sG).ins, kfs_many _ _ _ _ _, p, n, cr, lc, lr, dk, dg, ra, ga, rfl, kp.same sG, _, rfl, lh, _, rfl, .inl (SqL.of (sG _ _ h1)), rfl, ?_⟩
        have ed : decide (V.int (cr.length : Int) = V.int (wh.length : Int)) = true := decide_eq_true (by rw [lwh])
        rw [ed]
        exact q _
end
set_option maxHeartbeats 8000000 in
theorem all_mk {l : PySem.W.OpenLaw} {w : World} {K : PySem.W.Frag} {h : Heap} {mg : Str → Option Value} {fa : Addr} (X : K.In h) (G : h.Ns mainGlobals mg) (hfa : mg "law" = some (.ref fa))
    {K_Keeper : Addr}
    {f1 : Addr} {od1 an1 : Option Addr} {sl1 : Array (Option Value)} {oc1 kV1 dc1 pm1 cd1 ct1 : Value}
    {f2 : Addr} {od2 an2 : Option Addr} {sl2 : Array (Option Value)} {oc2 kV2 dc2 pm2 cd2 ct2 : Value}
    {f3 : Addr} {od3 an3 : Option Addr} {sl3 : Array (Option Value)} {oc3 kV3 dc3 pm3 cd3 ct3 : Value}
    {f4 : Addr} {od4 an4 : Option Addr} {sl4 : Array (Option Value)} {oc4 kV4 dc4 pm4 cd4 ct4 : Value}
    {f5 : Addr} {od5 an5 : Option Addr} {sl5 : Array (Option Value)} {oc5 kV5 dc5 pm5 cd5 ct5 : Value}
    {f6 : Addr} {od6 an6 : Option Addr} {sl6 : Array (Option Value)} {oc6 kV6 dc6 pm6 cd6 ct6 : Value}
    {f7 : Addr} {od7 an7 : Option Addr} {sl7 : Array (Option Value)} {oc7 kV7 dc7 pm7 cd7 ct7 : Value}
    {f8 : Addr} {od8 an8 : Option Addr} {sl8 : Array (Option Value)} {oc8 kV8 dc8 pm8 cd8 ct8 : Value}
    {f9 : Addr} {od9 an9 : Option Addr} {sl9 : Array (Option Value)} {oc9 kV9 dc9 pm9 cd9 ct9 : Value}
    {f10 : Addr} {od10 an10 : Option Addr} {sl10 : Array (Option Value)} {oc10 kV10 dc10 pm10 cd10 ct10 : Value}
    {f11 : Addr} {od11 an11 : Option Addr} {sl11 : Array (Option Value)} {oc11 kV11 dc11 pm11 cd11 ct11 : Value}
    {f12 : Addr} {od12 an12 : Option Addr} {sl12 : Array (Option Value)} {oc12 kV12 dc12 pm12 cd12 ct12 : Value}
    {f13 : Addr} {od13 an13 : Option Addr} {sl13 : Array (Option Value)} {oc13 kV13 dc13 pm13 cd13 ct13 : Value}
    {f14 : Addr} {od14 an14 : Option Addr} {sl14 : Array (Option Value)} {oc14 kV14 dc14 pm14 cd14 ct14 : Value}
    {f15 : Addr} {od15 an15 : Option Addr} {sl15 : Array (Option Value)} {oc15 kV15 dc15 pm15 cd15 ct15 : Value}
    {f16 : Addr} {od16 an16 : Option Addr} {sl16 : Array (Option Value)} {oc16 kV16 dc16 pm16 cd16 ct16 : Value}
    {f17 : Addr} {od17 an17 : Option Addr} {sl17 : Array (Option Value)} {oc17 kV17 dc17 pm17 cd17 ct17 : Value}
    {f18 : Addr} {od18 an18 : Option Addr} {sl18 : Array (Option Value)} {oc18 kV18 dc18 pm18 cd18 ct18 : Value}
    {f19 : Addr} {od19 an19 : Option Addr} {sl19 : Array (Option Value)} {oc19 kV19 dc19 pm19 cd19 ct19 : Value}
    {f20 : Addr} {od20 an20 : Option Addr} {sl20 : Array (Option Value)} {oc20 kV20 dc20 pm20 cd20 ct20 : Value}
    {f21 : Addr} {od21 an21 : Option Addr} {sl21 : Array (Option Value)} {oc21 kV21 dc21 pm21 cd21 ct21 : Value}
    {f22 : Addr} {od22 an22 : Option Addr} {sl22 : Array (Option Value)} {oc22 kV22 dc22 pm22 cd22 ct22 : Value}
    {f23 : Addr} {od23 an23 : Option Addr} {sl23 : Array (Option Value)} {oc23 kV23 dc23 pm23 cd23 ct23 : Value}
    {f24 : Addr} {od24 an24 : Option Addr} {sl24 : Array (Option Value)} {oc24 kV24 dc24 pm24 cd24 ct24 : Value}
    {f25 : Addr} {od25 an25 : Option Addr} {sl25 : Array (Option Value)} {oc25 kV25 dc25 pm25 cd25 ct25 : Value}
    {f26 : Addr} {od26 an26 : Option Addr} {sl26 : Array (Option Value)} {oc26 kV26 dc26 pm26 cd26 ct26 : Value}
    {f27 : Addr} {od27 an27 : Option Addr} {sl27 : Array (Option Value)} {oc27 kV27 dc27 pm27 cd27 ct27 : Value}
    {f28 : Addr} {od28 an28 : Option Addr} {sl28 : Array (Option Value)} {oc28 kV28 dc28 pm28 cd28 ct28 : Value}
    {f29 : Addr} {od29 an29 : Option Addr} {sl29 : Array (Option Value)} {oc29 kV29 dc29 pm29 cd29 ct29 : Value}
    {f30 : Addr} {od30 an30 : Option Addr} {sl30 : Array (Option Value)} {oc30 kV30 dc30 pm30 cd30 ct30 : Value}
    {f31 : Addr} {od31 an31 : Option Addr} {sl31 : Array (Option Value)} {oc31 kV31 dc31 pm31 cd31 ct31 : Value}
    (a1 : PySem.W.nsIn K mainGlobals "step" = some (some (.ref f1))) (l1 : K.lookup f1 = some ⟨oc1, od1, .func (PySem.W.fnOf "step" "step" (defArgs s_step) (defBody s_step) (defScope s_step) .none kV1 dc1 pm1 an1 cd1 ct1), sl1⟩) (c1 : PySem.W.codeIn K cd1 "step" = true) (k1 : PySem.W.keepIn K (.ref f1) = true)
    (a2 : PySem.W.nsIn K mainGlobals "distance" = some (some (.ref f2))) (l2 : K.lookup f2 = some ⟨oc2, od2, .func (PySem.W.fnOf "distance" "distance" (defArgs s_distance) (defBody s_distance) (defScope s_distance) .none kV2 dc2 pm2 an2 cd2 ct2), sl2⟩) (c2 : PySem.W.codeIn K cd2 "distance" = true) (k2 : PySem.W.keepIn K (.ref f2) = true)
    (a3 : PySem.W.nsIn K mainGlobals "done" = some (some (.ref f3))) (l3 : K.lookup f3 = some ⟨oc3, od3, .func (PySem.W.fnOf "done" "done" (defArgs s_done) (defBody s_done) (defScope s_done) .none kV3 dc3 pm3 an3 cd3 ct3), sl3⟩) (c3 : PySem.W.codeIn K cd3 "done" = true) (k3 : PySem.W.keepIn K (.ref f3) = true)
    (a4 : PySem.W.nsIn K mainGlobals "changes" = some (some (.ref f4))) (l4 : K.lookup f4 = some ⟨oc4, od4, .func (PySem.W.fnOf "changes" "changes" (defArgs s_changes) (defBody s_changes) (defScope s_changes) .none kV4 dc4 pm4 an4 cd4 ct4), sl4⟩) (c4 : PySem.W.codeIn K cd4 "changes" = true) (k4 : PySem.W.keepIn K (.ref f4) = true)
    (a5 : PySem.W.nsIn K mainGlobals "crowd_of" = some (some (.ref f5))) (l5 : K.lookup f5 = some ⟨oc5, od5, .func (PySem.W.fnOf "crowd_of" "crowd_of" (defArgs s_crowd_of) (defBody s_crowd_of) (defScope s_crowd_of) .none kV5 dc5 pm5 an5 cd5 ct5), sl5⟩) (c5 : PySem.W.codeIn K cd5 "crowd_of" = true) (k5 : PySem.W.keepIn K (.ref f5) = true)
    (a6 : PySem.W.nsIn K mainGlobals "changed" = some (some (.ref f6))) (l6 : K.lookup f6 = some ⟨oc6, od6, .func (PySem.W.fnOf "changed" "changed" (defArgs s_changed) (defBody s_changed) (defScope s_changed) .none kV6 dc6 pm6 an6 cd6 ct6), sl6⟩) (c6 : PySem.W.codeIn K cd6 "changed" = true) (k6 : PySem.W.keepIn K (.ref f6) = true)
    (a7 : PySem.W.nsIn K mainGlobals "distances" = some (some (.ref f7))) (l7 : K.lookup f7 = some ⟨oc7, od7, .func (PySem.W.fnOf "distances" "distances" (defArgs s_distances) (defBody s_distances) (defScope s_distances) .none kV7 dc7 pm7 an7 cd7 ct7), sl7⟩) (c7 : PySem.W.codeIn K cd7 "distances" = true) (k7 : PySem.W.keepIn K (.ref f7) = true)
    (a8 : PySem.W.nsIn K mainGlobals "counts" = some (some (.ref f8))) (l8 : K.lookup f8 = some ⟨oc8, od8, .func (PySem.W.fnOf "counts" "counts" (defArgs s_counts) (defBody s_counts) (defScope s_counts) .none kV8 dc8 pm8 an8 cd8 ct8), sl8⟩) (c8 : PySem.W.codeIn K cd8 "counts" = true) (k8 : PySem.W.keepIn K (.ref f8) = true)
    (a9 : PySem.W.nsIn K mainGlobals "ways" = some (some (.ref f9))) (l9 : K.lookup f9 = some ⟨oc9, od9, .func (PySem.W.fnOf "ways" "ways" (defArgs s_ways) (defBody s_ways) (defScope s_ways) .none kV9 dc9 pm9 an9 cd9 ct9), sl9⟩) (c9 : PySem.W.codeIn K cd9 "ways" = true) (k9 : PySem.W.keepIn K (.ref f9) = true)
    (a10 : PySem.W.nsIn K mainGlobals "images" = some (some (.ref f10))) (l10 : K.lookup f10 = some ⟨oc10, od10, .func (PySem.W.fnOf "images" "images" (defArgs s_images) (defBody s_images) (defScope s_images) .none kV10 dc10 pm10 an10 cd10 ct10), sl10⟩) (c10 : PySem.W.codeIn K cd10 "images" = true) (k10 : PySem.W.keepIn K (.ref f10) = true)
    (a11 : PySem.W.nsIn K mainGlobals "least_form" = some (some (.ref f11))) (l11 : K.lookup f11 = some ⟨oc11, od11, .func (PySem.W.fnOf "least_form" "least_form" (defArgs s_least_form) (defBody s_least_form) (defScope s_least_form) .none kV11 dc11 pm11 an11 cd11 ct11), sl11⟩) (c11 : PySem.W.codeIn K cd11 "least_form" = true) (k11 : PySem.W.keepIn K (.ref f11) = true)
    (a12 : PySem.W.findIn K (.ref K_Keeper) "__init__" = some (some (.ref f12))) (i12 : PySem.W.isFn K (.ref f12) = true) (l12 : K.lookup f12 = some ⟨oc12, od12, .func (PySem.W.fnOf "__init__" "Keeper.__init__" (defArgs s_Keeper___init__) (defBody s_Keeper___init__) (defScope s_Keeper___init__) .none kV12 dc12 pm12 an12 cd12 ct12), sl12⟩) (c12 : PySem.W.codeIn K cd12 "Keeper.__init__" = true) (k12 : PySem.W.keepIn K (.ref f12) = true)
    (a13 : PySem.W.findIn K (.ref K_Keeper) "new_kind" = some (some (.ref f13))) (i13 : PySem.W.isFn K (.ref f13) = true) (l13 : K.lookup f13 = some ⟨oc13, od13, .func (PySem.W.fnOf "new_kind" "Keeper.new_kind" (defArgs s_Keeper_new_kind) (defBody s_Keeper_new_kind) (defScope s_Keeper_new_kind) .none kV13 dc13 pm13 an13 cd13 ct13), sl13⟩) (c13 : PySem.W.codeIn K cd13 "Keeper.new_kind" = true) (k13 : PySem.W.keepIn K (.ref f13) = true)
    (a14 : PySem.W.findIn K (.ref K_Keeper) "kind_of" = some (some (.ref f14))) (i14 : PySem.W.isFn K (.ref f14) = true) (l14 : K.lookup f14 = some ⟨oc14, od14, .func (PySem.W.fnOf "kind_of" "Keeper.kind_of" (defArgs s_Keeper_kind_of) (defBody s_Keeper_kind_of) (defScope s_Keeper_kind_of) .none kV14 dc14 pm14 an14 cd14 ct14), sl14⟩) (c14 : PySem.W.codeIn K cd14 "Keeper.kind_of" = true) (k14 : PySem.W.keepIn K (.ref f14) = true)
    (a15 : PySem.W.findIn K (.ref K_Keeper) "told" = some (some (.ref f15))) (i15 : PySem.W.isFn K (.ref f15) = true) (l15 : K.lookup f15 = some ⟨oc15, od15, .func (PySem.W.fnOf "told" "Keeper.told" (defArgs s_Keeper_told) (defBody s_Keeper_told) (defScope s_Keeper_told) .none kV15 dc15 pm15 an15 cd15 ct15), sl15⟩) (c15 : PySem.W.codeIn K cd15 "Keeper.told" = true) (k15 : PySem.W.keepIn K (.ref f15) = true)
    (a16 : PySem.W.findIn K (.ref K_Keeper) "many" = some (some (.ref f16))) (i16 : PySem.W.isFn K (.ref f16) = true) (l16 : K.lookup f16 = some ⟨oc16, od16, .func (PySem.W.fnOf "many" "Keeper.many" (defArgs s_Keeper_many) (defBody s_Keeper_many) (defScope s_Keeper_many) .none kV16 dc16 pm16 an16 cd16 ct16), sl16⟩) (c16 : PySem.W.codeIn K cd16 "Keeper.many" = true) (k16 : PySem.W.keepIn K (.ref f16) = true)
    (a17 : PySem.W.findIn K (.ref K_Keeper) "crowd_at" = some (some (.ref f17))) (i17 : PySem.W.isFn K (.ref f17) = true) (l17 : K.lookup f17 = some ⟨oc17, od17, .func (PySem.W.fnOf "crowd_at" "Keeper.crowd_at" (defArgs s_Keeper_crowd_at) (defBody s_Keeper_crowd_at) (defScope s_Keeper_crowd_at) .none kV17 dc17 pm17 an17 cd17 ct17), sl17⟩) (c17 : PySem.W.codeIn K cd17 "Keeper.crowd_at" = true) (k17 : PySem.W.keepIn K (.ref f17) = true)
    (a18 : PySem.W.findIn K (.ref K_Keeper) "between" = some (some (.ref f18))) (i18 : PySem.W.isFn K (.ref f18) = true) (l18 : K.lookup f18 = some ⟨oc18, od18, .func (PySem.W.fnOf "between" "Keeper.between" (defArgs s_Keeper_between) (defBody s_Keeper_between) (defScope s_Keeper_between) .none kV18 dc18 pm18 an18 cd18 ct18), sl18⟩) (c18 : PySem.W.codeIn K cd18 "Keeper.between" = true) (k18 : PySem.W.keepIn K (.ref f18) = true)
    (a19 : PySem.W.nsIn K mainGlobals "_law_cell_at" = some (some (.ref f19))) (l19 : K.lookup f19 = some ⟨oc19, od19, .func (PySem.W.fnOf "_law_cell_at" "_law_cell_at" (defArgs s_l_cell_at) (defBody s_l_cell_at) (defScope s_l_cell_at) .none kV19 dc19 pm19 an19 cd19 ct19), sl19⟩) (c19 : PySem.W.codeIn K cd19 "_law_cell_at" = true) (k19 : PySem.W.keepIn K (.ref f19) = true)
    (a20 : PySem.W.nsIn K mainGlobals "_law_mixed" = some (some (.ref f20))) (l20 : K.lookup f20 = some ⟨oc20, od20, .func (PySem.W.fnOf "_law_mixed" "_law_mixed" (defArgs s_l_mixed) (defBody s_l_mixed) (defScope s_l_mixed) .none kV20 dc20 pm20 an20 cd20 ct20), sl20⟩) (c20 : PySem.W.codeIn K cd20 "_law_mixed" = true) (k20 : PySem.W.keepIn K (.ref f20) = true)
    (a21 : PySem.W.nsIn K mainGlobals "_law_wheel" = some (some (.ref f21))) (l21 : K.lookup f21 = some ⟨oc21, od21, .func (PySem.W.fnOf "_law_wheel" "_law_wheel" (defArgs s_l_wheel) (defBody s_l_wheel) (defScope s_l_wheel) .none kV21 dc21 pm21 an21 cd21 ct21), sl21⟩) (c21 : PySem.W.codeIn K cd21 "_law_wheel" = true) (k21 : PySem.W.keepIn K (.ref f21) = true)
    (a22 : PySem.W.nsIn K mainGlobals "_law_row" = some (some (.ref f22))) (l22 : K.lookup f22 = some ⟨oc22, od22, .func (PySem.W.fnOf "_law_row" "_law_row" (defArgs s_l_row) (defBody s_l_row) (defScope s_l_row) .none kV22 dc22 pm22 an22 cd22 ct22), sl22⟩) (c22 : PySem.W.codeIn K cd22 "_law_row" = true) (k22 : PySem.W.keepIn K (.ref f22) = true)
    (a23 : PySem.W.nsIn K mainGlobals "_law_sized" = some (some (.ref f23))) (l23 : K.lookup f23 = some ⟨oc23, od23, .func (PySem.W.fnOf "_law_sized" "_law_sized" (defArgs s_l_sized) (defBody s_l_sized) (defScope s_l_sized) .none kV23 dc23 pm23 an23 cd23 ct23), sl23⟩) (c23 : PySem.W.codeIn K cd23 "_law_sized" = true) (k23 : PySem.W.keepIn K (.ref f23) = true)
    (a24 : PySem.W.nsIn K mainGlobals "_law_change" = some (some (.ref f24))) (l24 : K.lookup f24 = some ⟨oc24, od24, .func (PySem.W.fnOf "_law_change" "_law_change" (defArgs s_l_change) (defBody s_l_change) (defScope s_l_change) .none kV24 dc24 pm24 an24 cd24 ct24), sl24⟩) (c24 : PySem.W.codeIn K cd24 "_law_change" = true) (k24 : PySem.W.keepIn K (.ref f24) = true)
    (a25 : PySem.W.nsIn K mainGlobals "_law_done" = some (some (.ref f25))) (l25 : K.lookup f25 = some ⟨oc25, od25, .func (PySem.W.fnOf "_law_done" "_law_done" (defArgs s_l_done) (defBody s_l_done) (defScope s_l_done) .none kV25 dc25 pm25 an25 cd25 ct25), sl25⟩) (c25 : PySem.W.codeIn K cd25 "_law_done" = true) (k25 : PySem.W.keepIn K (.ref f25) = true)
    (a26 : PySem.W.nsIn K mainGlobals "_law_changed" = some (some (.ref f26))) (l26 : K.lookup f26 = some ⟨oc26, od26, .func (PySem.W.fnOf "_law_changed" "_law_changed" (defArgs s_l_changed) (defBody s_l_changed) (defScope s_l_changed) .none kV26 dc26 pm26 an26 cd26 ct26), sl26⟩) (c26 : PySem.W.codeIn K cd26 "_law_changed" = true) (k26 : PySem.W.keepIn K (.ref f26) = true)
    (a27 : PySem.W.nsIn K mainGlobals "_law_changes" = some (some (.ref f27))) (l27 : K.lookup f27 = some ⟨oc27, od27, .func (PySem.W.fnOf "_law_changes" "_law_changes" (defArgs s_l_changes) (defBody s_l_changes) (defScope s_l_changes) .none kV27 dc27 pm27 an27 cd27 ct27), sl27⟩) (c27 : PySem.W.codeIn K cd27 "_law_changes" = true) (k27 : PySem.W.keepIn K (.ref f27) = true)
    (a28 : PySem.W.nsIn K mainGlobals "_law_next" = some (some (.ref f28))) (l28 : K.lookup f28 = some ⟨oc28, od28, .func (PySem.W.fnOf "_law_next" "_law_next" (defArgs s_l_next) (defBody s_l_next) (defScope s_l_next) .none kV28 dc28 pm28 an28 cd28 ct28), sl28⟩) (c28 : PySem.W.codeIn K cd28 "_law_next" = true) (k28 : PySem.W.keepIn K (.ref f28) = true)
    (a29 : PySem.W.nsIn K mainGlobals "_law_alike" = some (some (.ref f29))) (l29 : K.lookup f29 = some ⟨oc29, od29, .func (PySem.W.fnOf "_law_alike" "_law_alike" (defArgs s_l_alike) (defBody s_l_alike) (defScope s_l_alike) .none kV29 dc29 pm29 an29 cd29 ct29), sl29⟩) (c29 : PySem.W.codeIn K cd29 "_law_alike" = true) (k29 : PySem.W.keepIn K (.ref f29) = true)
    (a30 : PySem.W.nsIn K mainGlobals "_law_pair" = some (some (.ref f30))) (l30 : K.lookup f30 = some ⟨oc30, od30, .func (PySem.W.fnOf "_law_pair" "_law_pair" (defArgs s_l_pair) (defBody s_l_pair) (defScope s_l_pair) .none kV30 dc30 pm30 an30 cd30 ct30), sl30⟩) (c30 : PySem.W.codeIn K cd30 "_law_pair" = true) (k30 : PySem.W.keepIn K (.ref f30) = true)
    (a31 : PySem.W.nsIn K mainGlobals "law" = some (some (.ref f31))) (l31 : K.lookup f31 = some ⟨oc31, od31, .func (PySem.W.fnOf "law" "law" (defArgs s_law) (defBody s_law) (defScope s_law) .none kV31 dc31 pm31 an31 cd31 ct31), sl31⟩) (c31 : PySem.W.codeIn K cd31 "law" = true) (k31 : PySem.W.keepIn K (.ref f31) = true)
    (xKeeper_n : PySem.W.nsIn K mainGlobals "Keeper" = some (some (.ref K_Keeper)))
    (xKeeper_pg : PySem.W.plainGet K K_Keeper Str.empty = true)
    (xKeeper_hd : PySem.W.hasDictIn K K_Keeper = true)
    (xKeeper_po : PySem.W.plainOver K K_Keeper = true)
    (xKeeper_sa : PySem.W.findIn K (.ref K_Keeper) "__setattr__" = some (some (.builtin "object.__setattr__")))
    (xKeeper_mk : PySem.W.makesIn K K_Keeper = true)
    (xKeeper_kc : PySem.W.keepIn K (.ref K_Keeper) = true)
    (xKeeper_f0 : PySem.W.findIn K (.ref K_Keeper) "n" = some none)
    (xKeeper_f1 : PySem.W.findIn K (.ref K_Keeper) "crowds" = some none)
    (xKeeper_f2 : PySem.W.findIn K (.ref K_Keeper) "rolls" = some none)
    (xKeeper_f3 : PySem.W.findIn K (.ref K_Keeper) "kinds" = some none)
    (xKeeper_f4 : PySem.W.findIn K (.ref K_Keeper) "groups" = some none)
    (z_len : PySem.W.nsIn K mainGlobals "len" = some none)
    (z_max : PySem.W.nsIn K mainGlobals "max" = some none)
    (z_min : PySem.W.nsIn K mainGlobals "min" = some none)
    (z_range : PySem.W.nsIn K mainGlobals "range" = some none)
    (z_isinstance : PySem.W.nsIn K mainGlobals "isinstance" = some none)
    (z_int : PySem.W.nsIn K mainGlobals "int" = some none)
    (z_bool : PySem.W.nsIn K mainGlobals "bool" = some none)
    (z_tuple : PySem.W.nsIn K mainGlobals "tuple" = some none)
    (z_sorted : PySem.W.nsIn K mainGlobals "sorted" = some none)
    (z_set : PySem.W.nsIn K mainGlobals "set" = some none)
    (z_list : PySem.W.nsIn K mainGlobals "list" = some none)
    (z_enumerate : PySem.W.nsIn K mainGlobals "enumerate" = some none) :
    ∃ fd : FuncData, (∀ (s : Shared) (v : Value), BindsTo s fd ⟨[v], []⟩ [("_law_script", v)]) ∧ ∀ base : Heap, K.In base → base.Ns mainGlobals mg → FnOk l.prog w K mg base CX0 8 fa fd ["_law_script"] (sp_law w K) := by
  have e := hfa.symm.trans (PySem.W.mg_of X G a31)
  cases e
  have T : Txt K mg := ⟨PySem.W.mg_none_of X G z_len, PySem.W.mg_none_of X G z_max, PySem.W.mg_none_of X G z_min, PySem.W.mg_none_of X G z_range, PySem.W.mg_none_of X G z_isinstance, PySem.W.mg_none_of X G z_int, PySem.W.mg_none_of X G z_bool, PySem.W.mg_none_of X G z_tuple, PySem.W.mg_none_of X G z_sorted, PySem.W.mg_none_of X G z_set, PySem.W.mg_none_of X G z_list, PySem.W.mg_none_of X G z_enumerate, ⟨K_Keeper, xKeeper_n, PySem.W.mg_of X G xKeeper_n, ⟨xKeeper_pg, xKeeper_hd, xKeeper_po, xKeeper_sa⟩, List.forall_mem_cons.mpr ⟨xKeeper_f0, List.forall_mem_cons.mpr ⟨xKeeper_f1, List.forall_mem_cons.mpr ⟨xKeeper_f2, List.forall_mem_cons.mpr ⟨xKeeper_f3, List.forall_mem_cons.mpr ⟨xKeeper_f4, fun _ h => nomatch h⟩⟩⟩⟩⟩⟩⟩
  have F1 := fun_mk (st := s_step) l1 c1 k1
  have F2 := fun_mk (st := s_distance) l2 c2 k2
  have F3 := fun_mk (st := s_done) l3 c3 k3
  have F4 := fun_mk (st := s_changes) l4 c4 k4
  have F5 := fun_mk (st := s_crowd_of) l5 c5 k5
  have F6 := fun_mk (st := s_changed) l6 c6 k6
  have F7 := fun_mk (st := s_distances) l7 c7 k7
  have F8 := fun_mk (st := s_counts) l8 c8 k8
  have F9 := fun_mk (st := s_ways) l9 c9 k9
  have F10 := fun_mk (st := s_images) l10 c10 k10
  have F11 := fun_mk (st := s_least_form) l11 c11 k11
  have F12 := fun_mk (st := s_Keeper___init__) l12 c12 k12
  have F13 := fun_mk (st := s_Keeper_new_kind) l13 c13 k13
  have F14 := fun_mk (st := s_Keeper_kind_of) l14 c14 k14
  have F15 := fun_mk (st := s_Keeper_told) l15 c15 k15
  have F16 := fun_mk (st := s_Keeper_many) l16 c16 k16
  have F17 := fun_mk (st := s_Keeper_crowd_at) l17 c17 k17
  have F18 := fun_mk (st := s_Keeper_between) l18 c18 k18
  have F19 := fun_mk (st := s_l_cell_at) l19 c19 k19
  have F20 := fun_mk (st := s_l_mixed) l20 c20 k20
  have F21 := fun_mk (st := s_l_wheel) l21 c21 k21
  have F22 := fun_mk (st := s_l_row) l22 c22 k22
  have F23 := fun_mk (st := s_l_sized) l23 c23 k23
  have F24 := fun_mk (st := s_l_change) l24 c24 k24
  have F25 := fun_mk (st := s_l_done) l25 c25 k25
  have F26 := fun_mk (st := s_l_changed) l26 c26 k26
  have F27 := fun_mk (st := s_l_changes) l27 c27 k27
  have F28 := fun_mk (st := s_l_next) l28 c28 k28
  have F29 := fun_mk (st := s_l_alike) l29 c29 k29
  have F30 := fun_mk (st := s_l_pair) l30 c30 k30
  have F31 := fun_mk (st := s_law) l31 c31 k31
  refine ⟨PySem.W.fnOf "law" "law" (defArgs s_law) (defBody s_law) (defScope s_law) .none kV31 dc31 pm31 an31 cd31 ct31, fun s v => .of_eq rfl, fun base _ _ => ?_⟩
  have C_step : Has l.prog w K mg base 1 "step" ["n", "one", "other"] (sp_step w K) := ⟨_, _, ok_step F1 T , PySem.W.mg_of X G a1, k1, F1.binds fun _ _ _ _ _ _ us hl => match us, hl with | [_, _, _], _ => rfl⟩
  have C_distance : Has l.prog w K mg base 2 "distance" ["n", "one", "other"] (sp_distance w K) := ⟨_, _, ok_distance F2 T C_step, PySem.W.mg_of X G a2, k2, F2.binds fun _ _ _ _ _ _ us hl => match us, hl with | [_, _, _], _ => rfl⟩
  have C_done : Has l.prog w K mg base 1 "done" ["n", "change", "tone"] (sp_done w K) := ⟨_, _, ok_done F3 T , PySem.W.mg_of X G a3, k3, F3.binds fun _ _ _ _ _ _ us hl => match us, hl with | [_, _, _], _ => rfl⟩
  have C_changes : Has l.prog w K mg base 1 "changes" ["n"] (sp_changes w K) := ⟨_, _, ok_changes F4 T , PySem.W.mg_of X G a4, k4, F4.binds fun _ _ _ _ _ _ us hl => match us, hl with | [_], _ => rfl⟩
  have C_crowd_of : Has l.prog w K mg base 1 "crowd_of" ["n", "numbers"] (sp_crowd_of w K) := ⟨_, _, ok_crowd_of F5 T , PySem.W.mg_of X G a5, k5, F5.binds fun _ _ _ _ _ _ us hl => match us, hl with | [_, _], _ => rfl⟩
  have C_changed : Has l.prog w K mg base 2 "changed" ["n", "crowd", "change"] (sp_changed w K) := ⟨_, _, ok_changed F6 T C_crowd_of C_done, PySem.W.mg_of X G a6, k6, F6.binds fun _ _ _ _ _ _ us hl => match us, hl with | [_, _, _], _ => rfl⟩
  have C_distances : Has l.prog w K mg base 3 "distances" ["n", "crowd"] (sp_distances w K) := ⟨_, _, ok_distances F7 T C_distance, PySem.W.mg_of X G a7, k7, F7.binds fun _ _ _ _ _ _ us hl => match us, hl with | [_, _], _ => rfl⟩
  have C_counts : Has l.prog w K mg base 4 "counts" ["n", "crowd"] (sp_counts w K) := ⟨_, _, ok_counts F8 T C_distances, PySem.W.mg_of X G a8, k8, F8.binds fun _ _ _ _ _ _ us hl => match us, hl with | [_, _], _ => rfl⟩
  have C_ways : Has l.prog w K mg base 3 "ways" ["n", "one", "other"] (sp_ways w K) := ⟨_, _, ok_ways F9 T C_changed C_changes, PySem.W.mg_of X G a9, k9, F9.binds fun _ _ _ _ _ _ us hl => match us, hl with | [_, _, _], _ => rfl⟩
  have C_images : Has l.prog w K mg base 3 "images" ["n", "crowd"] (sp_images w K) := ⟨_, _, ok_images F10 T C_changed C_changes, PySem.W.mg_of X G a10, k10, F10.binds fun _ _ _ _ _ _ us hl => match us, hl with | [_, _], _ => rfl⟩
  have C_least_form : Has l.prog w K mg base 4 "least_form" ["n", "crowd"] (sp_least_form w K) := ⟨_, _, ok_least_form F11 T C_images, PySem.W.mg_of X G a11, k11, F11.binds fun _ _ _ _ _ _ us hl => match us, hl with | [_, _], _ => rfl⟩
  have C_Keeper___init__ : HasMk l.prog w K mg base 1 "Keeper" ["self", "n"] (sp_Keeper___init__ w K) := ⟨K_Keeper, _, _, xKeeper_n, PySem.W.mg_of X G xKeeper_n, ⟨xKeeper_mk, a12, i12, xKeeper_kc⟩, ok_Keeper___init__ F12 T , F12.binds fun _ _ _ _ _ _ us hl => match us, hl with | [_, _], _ => rfl⟩
  have C_Keeper_new_kind : HasM l.prog w K mg base CX0 5 "Keeper" "new_kind" ["self", "form"] (sp_Keeper_new_kind w K) := ⟨K_Keeper, _, _, xKeeper_n, ⟨xKeeper_pg, xKeeper_hd, xKeeper_po, xKeeper_sa⟩, ⟨a13, i13, k13⟩, ok_Keeper_new_kind F13 T C_counts, F13.binds fun _ _ _ _ _ _ us hl => match us, hl with | [_, _], _ => rfl⟩
  have C_Keeper_kind_of : HasM l.prog w K mg base CX0 6 "Keeper" "kind_of" ["self", "crowd"] (sp_Keeper_kind_of w K) := ⟨K_Keeper, _, _, xKeeper_n, ⟨xKeeper_pg, xKeeper_hd, xKeeper_po, xKeeper_sa⟩, ⟨a14, i14, k14⟩, ok_Keeper_kind_of F14 T C_Keeper_new_kind C_least_form, F14.binds fun _ _ _ _ _ _ us hl => match us, hl with | [_, _], _ => rfl⟩
  have C_Keeper_told : HasM l.prog w K mg base CX0 7 "Keeper" "told" ["self", "crowd"] (sp_Keeper_told w K) := ⟨K_Keeper, _, _, xKeeper_n, ⟨xKeeper_pg, xKeeper_hd, xKeeper_po, xKeeper_sa⟩, ⟨a15, i15, k15⟩, ok_Keeper_told F15 T C_Keeper_kind_of C_crowd_of C_ways, F15.binds fun _ _ _ _ _ _ us hl => match us, hl with | [_, _], _ => rfl⟩
  have C_Keeper_many : HasM l.prog w K mg base CX0 1 "Keeper" "many" ["self"] (sp_Keeper_many w K) := ⟨K_Keeper, _, _, xKeeper_n, ⟨xKeeper_pg, xKeeper_hd, xKeeper_po, xKeeper_sa⟩, ⟨a16, i16, k16⟩, ok_Keeper_many F16 T , F16.binds fun _ _ _ _ _ _ us hl => match us, hl with | [_], _ => rfl⟩
  have C_Keeper_crowd_at : HasM l.prog w K mg base CX0 1 "Keeper" "crowd_at" ["self", "number"] (sp_Keeper_crowd_at w K) := ⟨K_Keeper, _, _, xKeeper_n, ⟨xKeeper_pg, xKeeper_hd, xKeeper_po, xKeeper_sa⟩, ⟨a17, i17, k17⟩, ok_Keeper_crowd_at F17 T , F17.binds fun _ _ _ _ _ _ us hl => match us, hl with | [_, _], _ => rfl⟩
  have C_Keeper_between : HasM l.prog w K mg base CX0 4 "Keeper" "between" ["self", "one", "other"] (sp_Keeper_between w K) := ⟨K_Keeper, _, _, xKeeper_n, ⟨xKeeper_pg, xKeeper_hd, xKeeper_po, xKeeper_sa⟩, ⟨a18, i18, k18⟩, ok_Keeper_between F18 T C_Keeper_crowd_at C_ways, F18.binds fun _ _ _ _ _ _ us hl => match us, hl with | [_, _, _], _ => rfl⟩
  have C_l_cell_at : Has l.prog w K mg base 1 "_law_cell_at" ["_law_script", "_law_k"] (sp_l_cell_at w K) := ⟨_, _, ok_l_cell_at F19 T , PySem.W.mg_of X G a19, k19, F19.binds fun _ _ _ _ _ _ us hl => match us, hl with | [_, _], _ => rfl⟩
  have C_l_mixed : Has l.prog w K mg base 2 "_law_mixed" ["_law_script", "_law_k", "_law_salt"] (sp_l_mixed w K) := ⟨_, _, ok_l_mixed F20 T C_l_cell_at, PySem.W.mg_of X G a20, k20, F20.binds fun _ _ _ _ _ _ us hl => match us, hl with | [_, _, _], _ => rfl⟩
  have C_l_wheel : Has l.prog w K mg base 3 "_law_wheel" ["_law_script", "_law_most"] (sp_l_wheel w K) := ⟨_, _, ok_l_wheel F21 T C_l_mixed, PySem.W.mg_of X G a21, k21, F21.binds fun _ _ _ _ _ _ us hl => match us, hl with | [_, _], _ => rfl⟩
  have C_l_row : Has l.prog w K mg base 3 "_law_row" ["_law_script", "_law_k", "_law_salt", "_law_n"] (sp_l_row w K) := ⟨_, _, ok_l_row F22 T C_l_mixed, PySem.W.mg_of X G a22, k22, F22.binds fun _ _ _ _ _ _ us hl => match us, hl with | [_, _, _, _], _ => rfl⟩
  have C_l_sized : Has l.prog w K mg base 4 "_law_sized" ["_law_script", "_law_k", "_law_salt", "_law_n", "_law_size"] (sp_l_sized w K) := ⟨_, _, ok_l_sized F23 T C_l_row, PySem.W.mg_of X G a23, k23, F23.binds fun _ _ _ _ _ _ us hl => match us, hl with | [_, _, _, _, _], _ => rfl⟩
  have C_l_change : Has l.prog w K mg base 3 "_law_change" ["_law_script", "_law_k", "_law_salt", "_law_n"] (sp_l_change w K) := ⟨_, _, ok_l_change F24 T C_l_mixed, PySem.W.mg_of X G a24, k24, F24.binds fun _ _ _ _ _ _ us hl => match us, hl with | [_, _, _, _], _ => rfl⟩
  have C_l_done : Has l.prog w K mg base 1 "_law_done" ["_law_n", "_law_change_here", "_law_tone"] (sp_l_done w K) := ⟨_, _, ok_l_done F25 T , PySem.W.mg_of X G a25, k25, F25.binds fun _ _ _ _ _ _ us hl => match us, hl with | [_, _, _], _ => rfl⟩
  have C_l_changed : Has l.prog w K mg base 2 "_law_changed" ["_law_n", "_law_crowd_here", "_law_change_here"] (sp_l_changed w K) := ⟨_, _, ok_l_changed F26 T C_l_done, PySem.W.mg_of X G a26, k26, F26.binds fun _ _ _ _ _ _ us hl => match us, hl with | [_, _, _], _ => rfl⟩
  have C_l_changes : Has l.prog w K mg base 1 "_law_changes" ["_law_n"] (sp_l_changes w K) := ⟨_, _, ok_l_changes F27 T , PySem.W.mg_of X G a27, k27, F27.binds fun _ _ _ _ _ _ us hl => match us, hl with | [_], _ => rfl⟩
  have C_l_next : Has l.prog w K mg base 5 "_law_next" ["_law_script", "_law_k", "_law_n", "_law_heard"] (sp_l_next w K) := ⟨_, _, ok_l_next F28 T C_l_change C_l_changed C_l_mixed C_l_sized, PySem.W.mg_of X G a28, k28, F28.binds fun _ _ _ _ _ _ us hl => match us, hl with | [_, _, _, _], _ => rfl⟩
  have C_l_alike : Has l.prog w K mg base 3 "_law_alike" ["_law_n", "_law_one", "_law_other"] (sp_l_alike w K) := ⟨_, _, ok_l_alike F29 T C_l_changed C_l_changes, PySem.W.mg_of X G a29, k29, F29.binds fun _ _ _ _ _ _ us hl => match us, hl with | [_, _, _], _ => rfl⟩
  have C_l_pair : Has l.prog w K mg base 6 "_law_pair" ["_law_n", "_law_keeper", "_law_heard", "_law_kinds", "_law_one", "_law_other"] (sp_l_pair w K) := ⟨_, _, ok_l_pair F30 T C_Keeper_between C_l_alike C_l_changed C_l_changes C_least_form, PySem.W.mg_of X G a30, k30, F30.binds fun _ _ _ _ _ _ us hl => match us, hl with | [_, _, _, _, _, _], _ => rfl⟩
  exact ok_law F31 T C_Keeper___init__ C_Keeper_many C_Keeper_told C_l_changed C_l_mixed C_l_next C_l_pair C_l_wheel
theorem walk {l : PySem.W.OpenLaw} {q : Program} {loose : List Str} {XP : (Str → Option Value) → Heap → Prop} {YP : World → Heap → Prop} {d : DefRec} {K : Params → PySem.W.Frag} (hn : l.most = some 63) (hdf : d.params.defaults = [])
    (hY : ∀ (w : World) (h : Heap), YP w h → (K w.params).In h)
    (F : ∀ (w : World) (mg : Str → Option Value) (fa : Addr) (h : Heap), (K w.params).In h → h.Ns mainGlobals mg → mg d.name = some (.ref fa) →
      ∃ fd : FuncData, (∀ (s : Shared) (u : Value), BindsTo s fd ⟨[u], []⟩ [("_law_script", u)]) ∧ ∀ base : Heap, (K w.params).In base → base.Ns mainGlobals mg → FnOk l.prog w (K w.params) mg base CX0 8 fa fd ["_law_script"] (sp_law w (K w.params))) :
    PySem.W.WalkO q loose XP YP l.row.toRowW d [] (fun f vs => PySem.call f vs) :=
  L2.walk_of (n := 63) (k := 8) (x := "_law_script") (CX := fun _ => CX0) (sp := fun w => sp_law w (K w.params)) hn (by decide) hdf ⟨rfl, by decide, by decide⟩ hY F (fun _ _ a ns hl _ hS => ⟨a, ns, rfl, hS, hl, fun _ => rfl⟩) fun _ _ _ _ _ z => z
end My
open PySem PySem.W PyProof.Rows
set_option maxRecDepth 100000 in
set_option maxHeartbeats 0 in
theorem PySem.Challenge.cw_tonemirror_k53_whole_kept_alike_holds : PySem.Challenge.rw_tonemirror_k53_whole_kept_alike.Holds := by
  w_on; o_law; k_head; (case hw => w_witness2)
  k_fill
  refine My.walk (l := PySem.Challenge.rw_tonemirror_k53_whole_kept_alike) rfl rfl (fun w h Y => PySem.W.kIn_of Y) ?F
  case F =>
    intro w mg fa h KX G hmg
    refine' My.all_mk KX G hmg ?a1 ?l1 ?c1 ?k1 ?a2 ?l2 ?c2 ?k2 ?a3 ?l3 ?c3 ?k3 ?a4 ?l4 ?c4 ?k4 ?a5 ?l5 ?c5 ?k5 ?a6 ?l6 ?c6 ?k6 ?a7 ?l7 ?c7 ?k7 ?a8 ?l8 ?c8 ?k8 ?a9 ?l9 ?c9 ?k9 ?a10 ?l10 ?c10 ?k10 ?a11 ?l11 ?c11 ?k11 ?a12 ?i12 ?l12 ?c12 ?k12 ?a13 ?i13 ?l13 ?c13 ?k13 ?a14 ?i14 ?l14 ?c14 ?k14 ?a15 ?i15 ?l15 ?c15 ?k15 ?a16 ?i16 ?l16 ?c16 ?k16 ?a17 ?i17 ?l17 ?c17 ?k17 ?a18 ?i18 ?l18 ?c18 ?k18 ?a19 ?l19 ?c19 ?k19 ?a20 ?l20 ?c20 ?k20 ?a21 ?l21 ?c21 ?k21 ?a22 ?l22 ?c22 ?k22 ?a23 ?l23 ?c23 ?k23 ?a24 ?l24 ?c24 ?k24 ?a25 ?l25 ?c25 ?k25 ?a26 ?l26 ?c26 ?k26 ?a27 ?l27 ?c27 ?k27 ?a28 ?l28 ?c28 ?k28 ?a29 ?l29 ?c29 ?k29 ?a30 ?l30 ?c30 ?k30 ?a31 ?l31 ?c31 ?k31 ?xKeeper_n ?xKeeper_pg ?xKeeper_hd ?xKeeper_po ?xKeeper_sa ?xKeeper_mk ?xKeeper_kc ?xKeeper_f0 ?xKeeper_f1 ?xKeeper_f2 ?xKeeper_f3 ?xKeeper_f4 ?z_len ?z_max ?z_min ?z_range ?z_isinstance ?z_int ?z_bool ?z_tuple ?z_sorted ?z_set ?z_list ?z_enumerate
    (case xKeeper_n => k_is)
    (case a1 => k_is); (case l1 => k_is); (case c1 => k_is); (case k1 => k_is)
    (case a2 => k_is); (case l2 => k_is); (case c2 => k_is); (case k2 => k_is)
    (case a3 => k_is); (case l3 => k_is); (case c3 => k_is); (case k3 => k_is)
    (case a4 => k_is); (case l4 => k_is); (case c4 => k_is); (case k4 => k_is)
    (case a5 => k_is); (case l5 => k_is); (case c5 => k_is); (case k5 => k_is)
    (case a6 => k_is); (case l6 => k_is); (case c6 => k_is); (case k6 => k_is)
    (case a7 => k_is); (case l7 => k_is); (case c7 => k_is); (case k7 => k_is)
    (case a8 => k_is); (case l8 => k_is); (case c8 => k_is); (case k8 => k_is)
    (case a9 => k_is); (case l9 => k_is); (case c9 => k_is); (case k9 => k_is)
    (case a10 => k_is); (case l10 => k_is); (case c10 => k_is); (case k10 => k_is)
    (case a11 => k_is); (case l11 => k_is); (case c11 => k_is); (case k11 => k_is)
    (case a12 => k_is); (case i12 => k_is); (case l12 => k_is); (case c12 => k_is); (case k12 => k_is)
    (case a13 => k_is); (case i13 => k_is); (case l13 => k_is); (case c13 => k_is); (case k13 => k_is)
    (case a14 => k_is); (case i14 => k_is); (case l14 => k_is); (case c14 => k_is); (case k14 => k_is)
    (case a15 => k_is); (case i15 => k_is); (case l15 => k_is); (case c15 => k_is); (case k15 => k_is)
    (case a16 => k_is); (case i16 => k_is); (case l16 => k_is); (case c16 => k_is); (case k16 => k_is)
    (case a17 => k_is); (case i17 => k_is); (case l17 => k_is); (case c17 => k_is); (case k17 => k_is)
    (case a18 => k_is); (case i18 => k_is); (case l18 => k_is); (case c18 => k_is); (case k18 => k_is)
    (case a19 => k_is); (case l19 => k_is); (case c19 => k_is); (case k19 => k_is)
    (case a20 => k_is); (case l20 => k_is); (case c20 => k_is); (case k20 => k_is)
    (case a21 => k_is); (case l21 => k_is); (case c21 => k_is); (case k21 => k_is)
    (case a22 => k_is); (case l22 => k_is); (case c22 => k_is); (case k22 => k_is)
    (case a23 => k_is); (case l23 => k_is); (case c23 => k_is); (case k23 => k_is)
    (case a24 => k_is); (case l24 => k_is); (case c24 => k_is); (case k24 => k_is)
    (case a25 => k_is); (case l25 => k_is); (case c25 => k_is); (case k25 => k_is)
    (case a26 => k_is); (case l26 => k_is); (case c26 => k_is); (case k26 => k_is)
    (case a27 => k_is); (case l27 => k_is); (case c27 => k_is); (case k27 => k_is)
    (case a28 => k_is); (case l28 => k_is); (case c28 => k_is); (case k28 => k_is)
    (case a29 => k_is); (case l29 => k_is); (case c29 => k_is); (case k29 => k_is)
    (case a30 => k_is); (case l30 => k_is); (case c30 => k_is); (case k30 => k_is)
    (case a31 => k_is); (case l31 => k_is); (case c31 => k_is); (case k31 => k_is)
    (case xKeeper_pg => k_is)
    (case xKeeper_hd => k_is)
    (case xKeeper_po => k_is)
    (case xKeeper_sa => k_is)
    (case xKeeper_mk => k_is)
    (case xKeeper_kc => k_is)
    (case xKeeper_f0 => k_is)
    (case xKeeper_f1 => k_is)
    (case xKeeper_f2 => k_is)
    (case xKeeper_f3 => k_is)
    (case xKeeper_f4 => k_is)
    (case z_len => k_is)
    (case z_max => k_is)
    (case z_min => k_is)
    (case z_range => k_is)
    (case z_isinstance => k_is)
    (case z_int => k_is)
    (case z_bool => k_is)
    (case z_tuple => k_is)
    (case z_sorted => k_is)
    (case z_set => k_is)
    (case z_list => k_is)
    (case z_enumerate => k_is)
