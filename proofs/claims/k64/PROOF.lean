import PyProof.Rows.All
import Wide.All
import OpenK.AllK
import Wide.FinOn
import Lean
import PyProof.EqAt
import PyProof.EqKinds
import PyProof.TupleCall
import PyProof.SumAny
import PyProof.MaxThree
import PyProof.ZipIter
import PyProof.Rows.FactsT2
import PyProof.CompUse
import PyProof.Rows.CallKwBuiltin
import PyProof.EnumMake
import KE.KLam
import KE.KSortKey
import KE.KRevIter
import PyProof.AutoSeq1
import PyProof.MeetsSeq
import PyProof.SeqRoads2
import PyProof.ReprRoads
import PyProof.StrLawsRepr
import KE.KNestM
import PyProof.Rows.FactsT3
import PySem.Challenge.RW_flyloft_k64_deeds_undone
set_option Elab.async false
set_option linter.all false
set_option maxRecDepth 100000
/-! THE HAND LAYER, for ints, bools, texts, own classes, LISTS and tuples (index, slices, in, append, pop ..), calls, loops. Paste it whole ahead of your own text; what your proof does not reach may be deleted. -/
namespace L2
open PySem PySem.Spec PyProof.Rows

/-- a key: an int or a str -/
abbrev Key := Sum Int Str
def keyIs : Key → Value → Bool
  | .inl k, v => Value.isInt k v
  | .inr x, v => Value.isStrOf x v
def keyH (w : World) : Key → Int
  | .inl k => hashInt k
  | .inr x => hashStr w x
theorem keyIs_shape : ∀ {k : Key} {v : Value}, keyIs k v = true → (∃ i t, k = Sum.inl i ∧ v = Value.int i t) ∨ (∃ x t, k = Sum.inr x ∧ v = Value.str x t)
  | .inl i, v, h => by
    obtain ⟨t, e⟩ := Value.isInt_shape (k := i) (v := v) h
    exact .inl ⟨i, t, rfl, e⟩
  | .inr x, v, h => by
    obtain ⟨t, e⟩ := Value.isStrOf_shape (x := x) (v := v) h
    exact .inr ⟨x, t, rfl, e⟩
theorem keyIs_int (i : Int) (t : Tok) : keyIs (.inl i) (.int i t) = true := by simp [keyIs, Value.isInt]
theorem keyIs_str (x : Str) (t : Tok) : keyIs (.inr x) (.str x t) = true := by simp [keyIs, Value.isStrOf]
theorem key_ll (a b : Int) : decide ((Sum.inl a : Key) = Sum.inl b) = (a == b) := by
  by_cases e : a = b
  · subst e; simp
  · have h : ¬ (Sum.inl a : Key) = Sum.inl b := fun q => e (Sum.inl.inj q)
    rw [decide_eq_false h]
    exact (beq_eq_false_iff_ne.mpr e).symm
theorem key_rr (a b : Str) : decide ((Sum.inr a : Key) = Sum.inr b) = decide (a = b) := by
  by_cases e : a = b
  · subst e; simp
  · have h : ¬ (Sum.inr a : Key) = Sum.inr b := fun q => e (Sum.inr.inj q)
    rw [decide_eq_false h, decide_eq_false e]
theorem key_lr (a : Int) (b : Str) : decide ((Sum.inl a : Key) = Sum.inr b) = false := decide_eq_false (fun q => nomatch q)
theorem key_rl (a : Str) (b : Int) : decide ((Sum.inr a : Key) = Sum.inl b) = false := decide_eq_false (fun q => nomatch q)

def mixKind (prog : Program) (w : World) : PySem.KeyKind prog w Key where
  is := keyIs
  hash := keyH w
  inj := fun v a b ha hb => by
    rcases keyIs_shape ha with ⟨i, t, rfl, rfl⟩ | ⟨x, t, rfl, rfl⟩
    · rcases keyIs_shape hb with ⟨j, u, rfl, e⟩ | ⟨y, u, rfl, e⟩
      · injection e with e1 _; rw [e1]
      · exact nomatch e
    · rcases keyIs_shape hb with ⟨j, u, rfl, e⟩ | ⟨y, u, rfl, e⟩
      · exact nomatch e
      · injection e with e1 _; rw [e1]
  byValue := fun k v h => by
    rcases keyIs_shape h with ⟨i, t, rfl, rfl⟩ | ⟨x, t, rfl, rfl⟩ <;> rfl
  pyHash := fun hv h => by
    rcases keyIs_shape hv with ⟨i, t, rfl, rfl⟩ | ⟨x, t, rfl, rfl⟩
    · exact wpAny_pyHash_int h
    · exact wpAny_pyHash_str h
  eqBool := fun hu hv h => by
    rcases keyIs_shape hu with ⟨i, t, rfl, rfl⟩ | ⟨x, t, rfl, rfl⟩
    · rcases keyIs_shape hv with ⟨j, u, rfl, rfl⟩ | ⟨y, u, rfl, rfl⟩
      · rw [key_ll] at h; exact wpAny_eqBool_int h
      · rw [key_lr] at h; exact SeqAt.EqAt.int_str i t y u _ _ _ _ h
    · rcases keyIs_shape hv with ⟨j, u, rfl, rfl⟩ | ⟨y, u, rfl, rfl⟩
      · rw [key_rl] at h; exact SeqAt.EqAt.str_int x t j u _ _ _ _ h
      · rw [key_rr] at h; exact wpAny_eqBool_str h
  «strs» := fun k x t v h => by
    rcases keyIs_shape h with ⟨i, u, rfl, e⟩ | ⟨y, u, rfl, e⟩
    · exact nomatch e
    · injection e with e1 _
      subst e1
      cases v <;> rfl

theorem mixKind_is (prog : Program) (w : World) (k : Key) (v : Value) : (mixKind prog w).is k v = keyIs k v := rfl
theorem mixKind_int (prog : Program) (w : World) (i : Int) (t : Tok) : (mixKind prog w).is (.inl i) (.int i t) = true := keyIs_int i t
theorem mixKind_str (prog : Program) (w : World) (x : Str) (t : Tok) : (mixKind prog w).is (.inr x) (.str x t) = true := keyIs_str x t
end L2

namespace L2
open PySem PySem.Spec PyProof.Rows

/-- a value, without the heap -/
inductive V where
  | non | bl (b : Bool) | int (i : Int) | str (x : Str) | byt (b : Array UInt8) | flt (b : UInt64) | ref (a : Addr) | ty (n : String)
  deriving DecidableEq

def RelV : V → Value → Prop
  | .non, u => u = Value.none
  | .bl b, u => u = Value.bool b
  | .int i, u => ∃ t, u = Value.int i t
  | .str x, u => ∃ t, u = Value.str x t
  | .byt b, u => ∃ t, u = Value.bytes b t
  | .flt b, u => ∃ t, u = Value.float b t
  | .ref a, u => u = Value.ref a
  | .ty n, u => u = Value.type n

abbrev Vals : List V → List Value → Prop := Paired RelV
theorem Vals.length {xs : List V} {us : List Value} (r : Vals xs us) : xs.length = us.length := Paired.length r
theorem Vals.get : ∀ {xs : List V} {us : List Value} {i : Nat} {x : V}, Vals xs us → xs[i]? = some x → ∃ u, us[i]? = some u ∧ RelV x u
  | _, _, _, _, .nil, e => by simp at e
  | _, _, 0, _, .cons r _, e => by simp at e; subst e; exact ⟨_, rfl, r⟩
  | _, _, i + 1, x, .cons _ t, e => by
    obtain ⟨u, h1, h2⟩ := Vals.get (i := i) (x := x) t (by simpa using e)
    exact ⟨u, by simpa using h1, h2⟩
theorem Vals.set {x : V} {u : Value} (r : RelV x u) : ∀ {xs : List V} {us : List Value} (i : Nat), Vals xs us → Vals (xs.set i x) (us.set i u)
  | _, _, _, .nil => .nil
  | _, _, 0, .cons _ t => .cons r t
  | _, _, i + 1, .cons q t => .cons q (Vals.set r i t)
theorem Vals.append : ∀ {xs ys : List V} {us ws : List Value}, Vals xs us → Vals ys ws → Vals (xs ++ ys) (us ++ ws)
  | _, _, _, _, .nil, s => s
  | _, _, _, _, .cons r t, s => .cons r (Vals.append t s)
theorem Vals.take : ∀ {xs : List V} {us : List Value} (n : Nat), Vals xs us → Vals (xs.take n) (us.take n)
  | _, _, 0, _ => .nil
  | _, _, _ + 1, .nil => .nil
  | _, _, n + 1, .cons r t => .cons r (Vals.take n t)
theorem Vals.drop : ∀ {xs : List V} {us : List Value} (n : Nat), Vals xs us → Vals (xs.drop n) (us.drop n)
  | _, _, 0, r => r
  | _, _, _ + 1, .nil => .nil
  | _, _, n + 1, .cons _ t => Vals.drop n t
theorem Vals.none_of : ∀ {xs : List V} {us : List Value} {i : Nat}, Vals xs us → xs[i]? = none → us[i]? = none := fun {xs us i} r e => by
  have h1 := r.length
  have h2 : xs.length ≤ i := List.getElem?_eq_none_iff.mp e
  exact List.getElem?_eq_none_iff.mpr (by omega)

def RelO : Option V → Option Value → Prop
  | some v, some u => RelV v u
  | none, none => True
  | _, _ => False
def KV {κ : Type} : List (κ × V) → List (κ × Value) → Prop := Paired fun (p : κ × V) (q : κ × Value) => p.1 = q.1 ∧ RelV p.2 q.2

/-- a key of a dict (00_mix): an int or a text -/
def kV : Key → V
  | .inl i => .int i
  | .inr x => .str x

/-- what stands at a tracked address -/
inductive HO where
  /-- a list -/
  | lst (xs : List V)
  /-- a tuple (never changes) -/
  | tup (xs : List V)
  /-- a dict whose keys are ints and texts; one whose keys are tuples of ints and texts (the empty one is both) -/
  | dK (kvs : List (Key × V)) | dT (kvs : List (List Key × V))
  /-- a set of ints: its members, its size -/
  | set (S : Int → Bool) (n : Nat)
  /-- an instance of the class at C, its dict at dx, its attributes -/
  | ins (C dx : Addr) (fs : List (Str × V))
  /-- the dict of the instance at x -/
  | own (x : Addr)
  /-- the dict of an exception -/
  | xd (fs : List (Str × V))
  /-- a bound method, f of x -/
  | met (f x : Addr)
  /-- a range object lo, lo + 1, .. below hi -/
  | rng (lo hi : Int)
  /-- a thing that is known to the object (the script; a dict while a loop walks it): read, never written while it is so -/
  | frz (o : Obj) (u : HO)
  /-- a code object's table -/
  | tbl (ps : Array Value)
  /-- any other thing, by what is true of its one object (a def of one's own: SetO a S n := HO.ext fun h => ..) -/
  | ext (φ : Heap → Prop)

abbrev Hp := Addr → Option HO
def upd (H : Hp) (a : Addr) (o : HO) : Hp := fun b => if b = a then some o else H b
theorem upd_same {H : Hp} {a : Addr} {o : HO} : upd H a o a = some o := by unfold upd; rw [if_pos rfl]
theorem upd_ne {H : Hp} {a b : Addr} {o : HO} (h : b ≠ a) : upd H a o b = H b := by unfold upd; rw [if_neg h]
theorem upd_upd {H : Hp} {a : Addr} {o u : HO} : upd (upd H a o) a u = upd H a u := by
  funext b; unfold upd; split <;> rfl
/-- two objects of different content stand apart -/
theorem ne_of {H : Hp} {a b : Addr} {o u : HO} (h : H a = some o) (h' : H b = some u) (d : o ≠ u) : a ≠ b := by
  intro e; subst e; rw [h] at h'; exact d (Option.some.inj h')
theorem ne_of_none {H : Hp} {a b : Addr} {o : HO} (h : H a = some o) (h' : H b = none) : a ≠ b := by
  intro e; subst e; rw [h] at h'; cases h'

section
variable (P : Program) (w : World)
def ObjOk (H : Hp) (h : Heap) (a : Addr) : HO → Prop
  | .lst xs => xs.length ≤ sizeLine ∧ ∃ (its : List Value) (n : Nat), Vals xs its ∧ h.get? a = some { cls := .type "list", data := .seq its.toArray n }
  | .tup xs => xs.length ≤ sizeLine ∧ ∃ its : List Value, Vals xs its ∧ IsTup h a its.toArray
  | .dK kvs => kvs.length ≤ sizeLine ∧ (a == sysModules) = false ∧ ∃ vs, KV kvs vs ∧ h.DictOf (mixKind P w) a vs
  | .dT kvs => kvs.length ≤ sizeLine ∧ (a == sysModules) = false ∧ ∃ xs : List (List Key × Addr × Value),
      Paired (fun (p : List Key × V) (q : List Key × Addr × Value) => p.1 = q.1 ∧ H q.2.1 = some (.tup (p.1.map kV)) ∧ RelV p.2 q.2.2) kvs xs ∧
      ∃ o es ep, h.get? a = some o ∧ o.ExactDict ∧ o.data = .dict es ep ∧ es.toList = xs.map (entryOfKey (tupleKind (mixKind P w))) ∧ (xs.map (·.1)).Nodup
  | .set S n => h.SetOf (intKind P w) a S n
  | .ins C dx fs => H dx = some (.own a) ∧ fs.length ≤ 1000 ∧ dx ≠ a ∧ h.get? a = some (PySem.W.instObj C dx) ∧
      ∃ mA, h.Ns1 dx mA ∧ (∀ f, RelO (fs.lookup f) (mA f)) ∧ PySem.Within mA (fs.map (·.1))
  | .own _ => ∃ o, h.get? a = some o
  | .xd fs => ∃ mA, h.Ns1 a mA ∧ ∀ f, RelO (fs.lookup f) (mA f)
  | .rng lo hi => ∃ t u v, h.get? a = some { cls := .type "range", data := .fields #[.int lo t, .int hi u, .int 1 v] }
  | .frz o u => h.get? a = some o ∧ ObjOk H h a u
  | .tbl ps => h.get? a = some { cls := .none, data := .fields ps }
  | .met f x => h.get? a = some (PySem.W.methodObj (.ref f) (.ref x))
  | .ext φ => φ h ∧ (∃ o, h.get? a = some o) ∧ ∀ h1 h2 : Heap, φ h1 → (∀ o, h1.get? a = some o → h2.get? a = some o) → φ h2
/-- the abstract heap is held -/
def HOk (H : Hp) (h : Heap) : Prop := ∀ a o, H a = some o → ObjOk P w H h a o
end

section
variable {P : Program} {w : World} {H H' : Hp} {h h' : Heap} {a : Addr} {o : HO}
theorem ObjOk.lt (x : ObjOk P w H h a o) : a < h.objs.size := by
  cases o with
  | lst xs => obtain ⟨_, _, _, _, e⟩ := x; exact Heap.lt_size e
  | tup xs => obtain ⟨_, _, _, p⟩ := x; exact p.lt
  | dK kvs => obtain ⟨_, _, _, _, o, _, _, e, _⟩ := x; exact Heap.lt_size e
  | dT kvs => obtain ⟨_, _, _, _, o, _, _, e, _⟩ := x; exact Heap.lt_size e
  | set S n => obtain ⟨o, _, _, _, e, _⟩ := x; exact Heap.lt_size e
  | ins C dx fs => obtain ⟨_, _, _, e, _⟩ := x; exact Heap.lt_size e
  | own y => obtain ⟨_, e⟩ := x; exact Heap.lt_size e
  | xd fs => obtain ⟨_, ⟨_, _, _, e, _⟩, _⟩ := x; exact Heap.lt_size e
  | rng lo hi => obtain ⟨_, _, _, e⟩ := x; exact Heap.lt_size e
  | frz ob u => obtain ⟨e, _⟩ := x; exact Heap.lt_size e
  | tbl ps => exact Heap.lt_size (show h.get? a = some _ from x)
  | met f y => exact Heap.lt_size (show h.get? a = some _ from x)
  | ext φ => obtain ⟨_, ⟨_, e⟩, _⟩ := x; exact Heap.lt_size e
theorem Paired.mapP {α β : Type} {F G : α → β → Prop} : ∀ {l₁ : List α} {l₂ : List β}, Paired F l₁ l₂ → (∀ a b, F a b → G a b) → Paired G l₁ l₂
  | _, _, .nil, _ => .nil
  | _, _, .cons r t, f => .cons (f _ _ r) (Paired.mapP t f)
theorem Paired.imp' {α β : Type} {F G : α → β → Prop} (f : ∀ a b, F a b → G a b) {l₁ : List α} {l₂ : List β} (r : Paired F l₁ l₂) : Paired G l₁ l₂ := Paired.mapP r f
/-- what an object's description leans on: its own object, its own dict, the tuples -/
theorem ObjOk.stay (x : ObjOk P w H h a o) (k : ∀ b u, (b = a ∨ H b = some (.own a)) → h.get? b = some u → h'.get? b = some u)
    (ho : ∀ b, H b = some (.own a) → H' b = some (.own a)) (ht : ∀ b xs, H b = some (.tup xs) → H' b = some (.tup xs)) : ObjOk P w H' h' a o := by
  induction o with
  | lst xs => obtain ⟨z, its, n, r, e⟩ := x; exact ⟨z, its, n, r, k _ _ (.inl rfl) e⟩
  | tup xs => obtain ⟨z, its, r, ob, e, c⟩ := x; exact ⟨z, its, r, ob, k _ _ (.inl rfl) e, c⟩
  | dK kvs => obtain ⟨z, y, vs, r, ob, es, ep, e, c⟩ := x; exact ⟨z, y, vs, r, ob, es, ep, k _ _ (.inl rfl) e, c⟩
  | dT kvs =>
    obtain ⟨z, y, xs, r, ob, es, ep, e, c⟩ := x
    exact ⟨z, y, xs, Paired.mapP r fun p q z => ⟨z.1, ht _ _ z.2.1, z.2.2⟩, ob, es, ep, k _ _ (.inl rfl) e, c⟩
  | set S n => obtain ⟨ob, es, ep, t, e, c⟩ := x; exact ⟨ob, es, ep, t, k _ _ (.inl rfl) e, c⟩
  | ins C dx fs =>
    obtain ⟨d, z, ne, e, mA, ⟨od, es, ep, e2, c⟩, r⟩ := x
    exact ⟨ho _ d, z, ne, k _ _ (.inl rfl) e, mA, ⟨od, es, ep, k _ _ (.inr d) e2, c⟩, r⟩
  | own y => obtain ⟨ob, e⟩ := x; exact ⟨ob, k _ _ (.inl rfl) e⟩
  | xd fs => obtain ⟨mA, ⟨od, es, ep, e, c⟩, r⟩ := x; exact ⟨mA, ⟨od, es, ep, k _ _ (.inl rfl) e, c⟩, r⟩
  | rng lo hi => obtain ⟨t, u, v, e⟩ := x; exact ⟨t, u, v, k _ _ (.inl rfl) e⟩
  | frz ob u ih => obtain ⟨e, q⟩ := x; exact ⟨k _ _ (.inl rfl) e, ih q⟩
  | tbl ps =>
    have e : h.get? a = some { cls := .none, data := .fields ps } := x
    show h'.get? a = some { cls := .none, data := .fields ps }
    exact k a _ (.inl rfl) e
  | met f y =>
    have e : h.get? a = some (PySem.W.methodObj (.ref f) (.ref y)) := x
    show h'.get? a = some (PySem.W.methodObj (.ref f) (.ref y))
    exact k a _ (.inl rfl) e
  | ext φ => obtain ⟨p, ⟨o, e⟩, st⟩ := x; exact ⟨st _ _ p fun o q => k _ _ (.inl rfl) q, ⟨o, k _ _ (.inl rfl) e⟩, st⟩
theorem HOk.lt (x : HOk P w H h) (e : H a = some o) : a < h.objs.size := (x a o e).lt
theorem HOk.fresh (x : HOk P w H h) (e : h.objs.size ≤ a) : H a = none := by
  cases q : H a with
  | none => rfl
  | some u => exact absurd (Nat.lt_of_lt_of_le (x.lt q) e) (Nat.lt_irrefl _)
/-- every object of the heap is kept -/
theorem HOk.kept (x : HOk P w H h) (k : ∀ b u, h.get? b = some u → h'.get? b = some u) : HOk P w H h' := fun a o e =>
  (x a o e).stay (fun b u _ q => k b u q) (fun _ q => q) fun _ _ q => q
/-- a new object is laid and tracked -/
theorem HOk.laid (x : HOk P w H h) (k : ∀ b u, h.get? b = some u → h'.get? b = some u) (hp : h.objs.size ≤ a) (new : ObjOk P w (upd H a o) h' a o) : HOk P w (upd H a o) h' := fun b u e => by
  have hn := x.fresh hp
  by_cases hb : b = a
  · subst hb; rw [upd_same] at e; cases e; exact new
  · rw [upd_ne hb] at e
    exact (x b u e).stay (fun c v _ q => k c v q) (fun c q => by rw [upd_ne (ne_of_none q hn)]; exact q) fun c xs q => by rw [upd_ne (ne_of_none q hn)]; exact q
end

/-- what may be read as u: it is u, or a known u -/
def Rd (H : Hp) (a : Addr) (u : HO) : Prop := H a = some u ∨ ∃ o, H a = some (.frz o u)
theorem Rd.of {H : Hp} {a : Addr} {u : HO} (h : H a = some u) : Rd H a u := .inl h
theorem Rd.ok {P : Program} {w : World} {H : Hp} {h : Heap} {a : Addr} {u : HO} (r : Rd H a u) (x : HOk P w H h) : ObjOk P w H h a u := by
  rcases r with r | ⟨o, r⟩
  · exact x a u r
  · obtain ⟨_, q⟩ := x a _ r
    exact q
/-- what may be written -/
def Mut : Option HO → Prop
  | some (.lst _) => True
  | some (.dK _) => True
  | some (.dT _) => True
  | some (.set _ _) => True
  | some (.ins _ _ _) => True
  | some (.ext _) => True
  | _ => False
section
variable {P : Program} {w : World} {H : Hp} {h h' : Heap} {x e : Addr} {o' : HO}
/-- the object at e is changed: x itself, or the dict of the instance x -/
theorem HOk.write (ok : HOk P w H h) (mu : Mut (H x)) (he : e = x ∨ H e = some (.own x)) (k : ∀ b u, b ≠ e → h.get? b = some u → h'.get? b = some u) (heo : ∃ u, h'.get? e = some u)
    (new : ObjOk P w (upd H x o') h' x o') : HOk P w (upd H x o') h' := fun b u q => by
  have nown : ∀ c y, H c = some (.own y) → c ≠ x := fun c y r z => by subst z; rw [r] at mu; exact mu
  have ntup : ∀ c xs, H c = some (.tup xs) → c ≠ x := fun c xs r z => by subst z; rw [r] at mu; exact mu
  by_cases hb : b = x
  · subst hb; rw [upd_same] at q; cases q; exact new
  · rw [upd_ne hb] at q
    by_cases hbe : b = e
    · have q' : H b = some (.own x) := by
        rcases he with z | z
        · exact absurd (hbe.trans z) hb
        · rw [hbe]; exact z
      rw [q] at q'; cases q'
      obtain ⟨v, hv⟩ := heo
      exact ⟨v, by rw [hbe]; exact hv⟩
    · refine (ok b u q).stay (fun c v hc r => k c v ?_ r) (fun c r => by rw [upd_ne (nown c b r)]; exact r) fun c xs r => by rw [upd_ne (ntup c xs r)]; exact r
      rcases hc with rfl | hc
      · exact hbe
      · rintro rfl
        rcases he with z | z
        · exact nown c b hc z
        · rw [hc] at z; cases z; exact hb rfl
end

/-! ### kept unless tracked; of the frames at fs (the callers') the slots may change (an exception that passes writes there); of the records at ex (iterators) nothing is said -/
structure Un (fs ex : List Addr) (H H' : Hp) (h h' : Heap) : Prop where
  keep : ∀ b o, h.get? b = some o → H b = none → b ∉ fs → b ∉ ex → h'.get? b = some o
  slot : ∀ b o, h.get? b = some o → H b = none → b ∈ fs → b ∉ ex → ∃ sl, h'.get? b = some { o with slots := sl }
  free : ∀ b o, h.get? b = some o → H b = none → b ∉ ex → H' b = none
  there : ∀ b o, h.get? b = some o → b ∉ ex → ∃ o', h'.get? b = some o'
  tups : ∀ b xs, H b = some (.tup xs) → H' b = some (.tup xs)
  frzs : ∀ b o u, H b = some (.frz o u) → H' b = some (.frz o u)
  tbls : ∀ b ps, H b = some (.tbl ps) → ∃ more, H' b = some (.tbl (ps ++ more))
section
variable {fs fs' ex ex' : List Addr} {H H1 H2 : Hp} {h h1 h2 h' : Heap} {a x e : Addr} {o : HO}
theorem Un.any (u : Un fs ex H H1 h h1) {b : Addr} {ob : Obj} (q : h.get? b = some ob) (n : H b = none) (hx : b ∉ ex) : ∃ sl, h1.get? b = some { ob with slots := sl } := by
  by_cases hb : b ∈ fs
  · exact u.slot b ob q n hb hx
  · exact ⟨ob.slots, u.keep b ob q n hb hx⟩
theorem Un.trans (a : Un fs ex H H1 h h1) (b : Un fs ex H1 H2 h1 h2) : Un fs ex H H2 h h2 where
  keep := fun c ob q n hc hx => b.keep c ob (a.keep c ob q n hc hx) (a.free c ob q n hx) hc hx
  slot := fun c ob q n hc hx => by
    obtain ⟨sl, e1⟩ := a.slot c ob q n hc hx
    obtain ⟨sl', e2⟩ := b.slot c _ e1 (a.free c ob q n hx) hc hx
    exact ⟨sl', e2⟩
  free := fun c ob q n hx => by
    obtain ⟨o', e1⟩ := a.there c ob q hx
    exact b.free c o' e1 (a.free c ob q n hx) hx
  there := fun c ob q hx => by
    obtain ⟨o', e1⟩ := a.there c ob q hx
    exact b.there c o' e1 hx
  tups := fun c xs q => b.tups c xs (a.tups c xs q)
  frzs := fun c ob xs q => b.frzs c ob xs (a.frzs c ob xs q)
  tbls := fun c ps q => by
    obtain ⟨m1, e1⟩ := a.tbls c ps q
    obtain ⟨m2, e2⟩ := b.tbls c _ e1
    exact ⟨m1 ++ m2, by rw [e2, Array.append_assoc]⟩
theorem Un.kept (k : ∀ b u, h.get? b = some u → h'.get? b = some u) : Un fs ex H H h h' :=
  ⟨fun b ob q _ _ _ => k b ob q, fun b ob q _ _ _ => ⟨ob.slots, k b ob q⟩, fun _ _ _ n _ => n, fun b ob q _ => ⟨ob, k b ob q⟩, fun _ _ q => q, fun _ _ _ q => q, fun _ ps q => ⟨#[], by rw [q]; simp⟩⟩
theorem Un.refl : Un fs ex H H h h := Un.kept fun _ _ q => q
theorem Un.laid (k : ∀ b u, h.get? b = some u → h'.get? b = some u) (hp : h.objs.size ≤ a) (hn : H a = none) : Un fs ex H (upd H a o) h h' where
  keep := fun b u q _ _ _ => k b u q
  slot := fun b u q _ _ _ => ⟨u.slots, k b u q⟩
  free := fun b u q n _ => by rw [upd_ne (Nat.ne_of_lt (Nat.lt_of_lt_of_le (Heap.lt_size q) hp))]; exact n
  there := fun b u q _ => ⟨u, k b u q⟩
  tups := fun b xs q => by rw [upd_ne (ne_of_none q hn)]; exact q
  frzs := fun b u xs q => by rw [upd_ne (ne_of_none q hn)]; exact q
  tbls := fun b ps q => ⟨#[], by rw [upd_ne (ne_of_none q hn), q]; simp⟩
theorem Un.write (mu : Mut (H x)) (he : e = x ∨ H e = some (.own x)) (k : ∀ b u, b ≠ e → h.get? b = some u → h'.get? b = some u) (heo : ∃ u, h'.get? e = some u) : Un fs ex H (upd H x o) h h' := by
  have hx : ∀ b, H b = none → b ≠ x := fun b n z => by subst z; rw [n] at mu; exact mu
  have hb : ∀ b, H b = none → b ≠ e := fun b n z => by
    subst z
    rcases he with r | r
    · exact hx b n r
    · rw [n] at r; cases r
  have hm : ∀ b u, H b = some u → ¬ Mut (some u) → b ≠ x := fun b u q nm z => by subst z; rw [q] at mu; exact nm mu
  refine ⟨fun b u q n _ _ => k b u (hb b n) q, fun b u q n _ _ => ⟨u.slots, k b u (hb b n) q⟩, fun b u q n _ => by rw [upd_ne (hx b n)]; exact n, fun b u q _ => ?_,
    fun b xs q => by rw [upd_ne (hm b _ q fun z => z)]; exact q, fun b u xs q => by rw [upd_ne (hm b _ q fun z => z)]; exact q, fun b ps q => ⟨#[], by rw [upd_ne (hm b _ q fun z => z), q]; simp⟩⟩
  by_cases hbe : b = e
  · subst hbe; exact heo
  · exact ⟨u, k b u hbe q⟩
theorem Un.mono (u : Un fs ex H H1 h h1) (hs : ∀ b ∈ fs, b ∈ fs') (hx : ∀ b ∈ ex, b ∈ ex') : Un fs' ex' H H1 h h1 :=
  ⟨fun b ob q n hb he => u.keep b ob q n (fun z => hb (hs b z)) fun z => he (hx b z), fun _ _ q n _ he => u.any q n fun z => he (hx _ z), fun b ob q n he => u.free b ob q n fun z => he (hx b z), fun b ob q he => u.there b ob q fun z => he (hx b z), u.tups, u.frzs, u.tbls⟩
end

/-! ### the heap without what is tracked -/
def trk (h : Heap) (H : Hp) : List Addr := (List.range h.objs.size).filter fun a => (H a).isSome
def hidT (h : Heap) (H : Hp) : Heap := PySem.W.hideAll h (trk h H)
theorem hidT_size (h : Heap) (H : Hp) : (hidT h H).objs.size = h.objs.size := PySem.W.hideAll_size _ _
theorem hidT_get {h : Heap} {H : Hp} {b : Addr} {o : Obj} (e : h.get? b = some o) (n : H b = none) : (hidT h H).get? b = some o :=
  PySem.W.hideAll_get _ e fun hm => by
    have q : (H b).isSome = true := (List.mem_filter.mp hm).2
    rw [n] at q; simp at q
theorem of_hidT {h : Heap} {H : Hp} {b : Addr} {o : Obj} (e : (hidT h H).get? b = some o) : h.get? b = some o ∧ H b = none := by
  have e' : h.get? b = some o := PySem.W.of_hideAll (trk h H) e
  refine ⟨e', ?_⟩
  cases q : H b with
  | none => rfl
  | some x =>
    have hm : b ∈ trk h H := List.mem_filter.mpr ⟨List.mem_range.mpr (Heap.lt_size e'), by simp [q]⟩
    have z : (hidT h H).get? b = none := PySem.W.hideAll_none (trk h H) hm
    rw [z] at e; cases e

/-! ### OpenK's ledger, filled with every new object but one -/
def allNews (g h : Heap) (L : Addr) : List (Addr × Obj) := (List.range h.objs.size).filterMap fun a => if a = L ∨ (g.get? a).isSome = true then none else (h.get? a).map fun o => (a, o)
theorem mem_allNews {g h : Heap} {L a : Addr} {o : Obj} (h1 : a ≠ L) (h2 : g.get? a = none) (h3 : h.get? a = some o) : (a, o) ∈ allNews g h L :=
  List.mem_filterMap.mpr ⟨a, List.mem_range.mpr (Heap.lt_size h3), by simp [h1, h2, h3]⟩
theorem of_mem_allNews {g h : Heap} {L : Addr} {p : Addr × Obj} (hp : p ∈ allNews g h L) : p.1 ≠ L ∧ g.get? p.1 = none ∧ h.get? p.1 = some p.2 := by
  obtain ⟨b, _, e⟩ := List.mem_filterMap.mp hp
  split at e
  · cases e
  · rename_i hn
    cases q : h.get? b with
    | none => rw [q] at e; simp at e
    | some u =>
      rw [q] at e
      simp only [Option.map_some, Option.some.injEq] at e
      subst e
      refine ⟨fun z => hn (.inl z), ?_, q⟩
      show g.get? b = none
      cases r : g.get? b with
      | none => rfl
      | some v => exact (hn (.inr (by simp [r]))).elim
def rest (g h : Heap) (L d : Addr) : List (Addr × Obj) := (allNews g h L).filter fun p => decide (p.1 ≠ d)
theorem rest_ne {g h : Heap} {L d : Addr} : ∀ p ∈ rest g h L d, p.1 ≠ d := fun p hp => of_decide_eq_true (List.mem_filter.mp hp).2
theorem mem_rest {g h : Heap} {L d a : Addr} {o : Obj} (h1 : a ≠ L) (h2 : g.get? a = none) (h3 : h.get? a = some o) (h4 : a ≠ d) : (a, o) ∈ rest g h L d :=
  List.mem_filter.mpr ⟨mem_allNews h1 h2 h3, decide_eq_true h4⟩
theorem news_all {g h : Heap} {L : Addr} : News g L h (allNews g h L) := fun p hp => let ⟨a, b, c⟩ := of_mem_allNews hp; ⟨c, a, b⟩
theorem news_at {g h : Heap} {L d : Addr} {o : Obj} (h1 : d ≠ L) (h2 : g.get? d = none) (h3 : h.get? d = some o) : News g L h ((d, o) :: rest g h L d) := fun p hp => by
  rcases List.mem_cons.mp hp with rfl | hp
  · exact ⟨h3, h1, h2⟩
  · exact news_all p (List.mem_filter.mp hp).1
/-- behind a rule that changed d alone: all else but the frame is kept -/
theorem kept_of_news {g h h' : Heap} {L d : Addr} {m : Str → Option Value} (k : ∀ b o, g.get? b = some o → h.get? b = some o) (F : Fr g L h' m) (N : News g L h' (rest g h L d)) :
    ∀ b o, b ≠ L → b ≠ d → h.get? b = some o → h'.get? b = some o := fun b o h1 h2 e => by
  cases q : g.get? b with
  | some u =>
    have := k b u q
    rw [e] at this; cases this
    exact F.keep b _ q
  | none => exact (N (b, o) (mem_rest h1 q e h2)).1
end L2

namespace L2
open PySem PySem.Spec PyProof.Rows

/-- the module's facts, over the base: the heap at the law's entry without what is tracked there -/
structure Mod (K : PySem.W.Frag) (mg : Str → Option Value) (base : Heap) : Prop where
  kin : K.In base
  glob : base.Ns mainGlobals mg
  blt : ∃ mb, base.Ns builtinsNs mb ∧ ∀ x : Str, x ≠ "__name__" → mb x = bootBuiltins x
  nolimit : base.NoLimit

/-- the context: a def's body (or a comprehension's block) running. base: fixed through the whole law; s₀, H₀: the entry; outer: the frames whose slots others may change (a def's callers); stack: all frames that run;
   ex: iterators that were made ahead of the entry and are walked here (a comprehension's); fn: the names whose cells were made at the entry (a def: all; a comprehension's block: its own); calm: not within an except suite; pn: pins that every state bears; xe: what is wanted of an exception that leaves the code -/
structure Cx where
  prog : Program
  w : World
  K : PySem.W.Frag
  mg : Str → Option Value
  base : Heap
  A : Around
  N : List Str
  s₀ : Shared
  H₀ : Hp
  env : Env
  outer : List Env
  stack : List Env
  ex : List Addr
  fn : Str → Bool
  calm : Bool
  pn : List (Addr × Obj)
  xe : Value → Shared → Prop
/-- the callers' frames -/
def frs (l : List Env) : List Addr := l.filterMap (·.frame)
abbrev Cx.fs (X : Cx) : List Addr := frs X.outer

def Vis (sc : Scope) (x : Str) : Prop := sc.names.lookup x = some .local ∨ sc.names.lookup x = some .cell ∨ sc.names.lookup x = some .free
def Loc (sc : Scope) (x : Str) : Prop := sc.names.lookup x = some .local ∨ sc.names.lookup x = some .cell
def Look (env : Env) (h : Heap) (m : Str → Option Value) (x : Str) (u : Value) : Prop :=
  (env.kindOf x = some .local ∧ m x = some u) ∨ ((env.kindOf x = some .cell ∨ env.kindOf x = some .free) ∧ ∃ c, env.cells.lookup x = some c ∧ h.IsCell c (some u))

structure Cx.Ok (X : Cx) : Prop where
  mod : Mod X.K X.mg X.base
  kind : X.env.scope.kind = .function
  glob : X.env.globals = mainGlobals
  blt : X.env.builtins = builtinsNs
  above : X.s₀.heap.objs.size ≤ X.env.locals
  inj : ∀ x y c, X.env.cells.lookup x = some c → X.env.cells.lookup y = some c → x = y
  has : ∀ x, (X.env.kindOf x = some .cell ∨ X.env.kindOf x = some .free) → ∃ c, X.env.cells.lookup x = some c
  cab : ∀ x c, X.fn x = true → X.env.cells.lookup x = some c → X.s₀.heap.objs.size ≤ c
  hd : X.calm = true → X.A.handled = none
  frames : X.A.frames = some X.stack
  stk : X.stack = X.outer ∨ (X.stack = X.env :: X.outer ∧ X.env.frame = some X.env.locals)
  exf : ∀ b ∈ X.ex, b ≠ X.env.locals ∧ ∀ x c, X.env.cells.lookup x = some c → c ≠ b
  bs : ∀ b o, X.base.get? b = some o → X.s₀.heap.get? b = some o ∧ X.H₀ b = none
  bsz : X.base.objs.size ≤ X.s₀.heap.objs.size
  noex : ∀ b o, X.base.get? b = some o → b ∉ X.ex
  exfs : ∀ b ∈ X.ex, b ∉ X.fs
  funs : X.s₀.heap.FunFrames X.base X.outer
  frf : ∀ b ∈ X.fs, X.H₀ b = none

structure Inv (X : Cx) (pins : List (Addr × Obj)) (σ : List (Option V)) (H : Hp) (s : Shared) : Prop where
  ok : X.Ok
  os : s.os = X.s₀.os
  bare : AllBare s.gens
  base : Un X.fs X.ex X.H₀ H X.s₀.heap s.heap
  loc : ∃ m, s.heap.Ns X.env.locals m ∧ ∀ (i : Nat) (x : Str) (v : V), X.N[i]? = some x → σ[i]? = some (some v) → Vis X.env.scope x → ∃ u, RelV v u ∧ Look X.env s.heap m x u
  cell : ∀ x c, X.env.cells.lookup x = some c → ∃ v, s.heap.IsCell c v
  free : H X.env.locals = none
  freeC : ∀ x c, X.env.cells.lookup x = some c → H c = none
  pin : ∀ p ∈ X.pn ++ pins, s.heap.get? p.1 = some p.2 ∧ H p.1 = none ∧ p.1 ≠ X.env.locals ∧ p.1 ∉ X.fs ∧ ∀ v, p.2.data ≠ .cell v
  hok : HOk X.prog X.w H s.heap
  len : σ.length = X.N.length

section
variable {X : Cx} {pins : List (Addr × Obj)} {σ : List (Option V)} {H H' : Hp} {s : Shared} {h' : Heap}

theorem Cx.Ok.nofr (ok : X.Ok) {b : Addr} {o : Obj} (e : X.base.get? b = some o) : b ∉ X.fs := fun hb => by
  have := (ok.funs.mem hb).1
  rw [e] at this; cases this
theorem Inv.bs (I : Inv X pins σ H s) : ∀ b o, X.base.get? b = some o → s.heap.get? b = some o ∧ H b = none := fun b o e =>
  ⟨I.base.keep b o (I.ok.bs b o e).1 (I.ok.bs b o e).2 (I.ok.nofr e) (I.ok.noex b o e), I.base.free b o (I.ok.bs b o e).1 (I.ok.bs b o e).2 (I.ok.noex b o e)⟩
theorem Inv.bk (I : Inv X pins σ H s) : ∀ b o, X.base.get? b = some o → s.heap.get? b = some o := fun b o e => (I.bs b o e).1
theorem Inv.mod (I : Inv X pins σ H s) : Mod X.K X.mg X.base := I.ok.mod
theorem Inv.kIn (I : Inv X pins σ H s) : X.K.In s.heap := I.ok.mod.kin.keeps I.bk
theorem Inv.nolimit (I : Inv X pins σ H s) : s.heap.NoLimit := I.ok.mod.nolimit.keeps I.bk
/-- the frame over the base: for OpenK's rules (K.In X.base is I.mod.kin) -/
theorem Inv.fr (I : Inv X pins σ H s) : ∃ m, Fr X.base X.env.locals s.heap m :=
  let ⟨m, hn, _⟩ := I.loc
  ⟨m, hn, I.bk, Nat.le_trans I.ok.bsz I.ok.above⟩
theorem Inv.lt (I : Inv X pins σ H s) : X.env.locals < s.heap.objs.size := let ⟨_, hn, _⟩ := I.loc; hn.lt
theorem Inv.sz (I : Inv X pins σ H s) : X.s₀.heap.objs.size ≤ s.heap.objs.size := Nat.le_trans I.ok.above (Nat.le_of_lt I.lt)
theorem Inv.nofs (I : Inv X pins σ H s) {a : Addr} (h : s.heap.objs.size ≤ a) : a ∉ X.fs := fun hb => by
  obtain ⟨_, o, ho, _⟩ := I.ok.funs.mem hb
  exact absurd (Nat.lt_of_lt_of_le (Heap.lt_size ho) (Nat.le_trans I.sz h)) (Nat.lt_irrefl _)
theorem Inv.cne (I : Inv X pins σ H s) : ∀ x c, X.env.cells.lookup x = some c → c ≠ X.env.locals := fun x c e z => by
  obtain ⟨v, o, ho, hd⟩ := I.cell x c e
  obtain ⟨m, ⟨o', es, ep, ho', hd', _⟩, _⟩ := I.loc
  rw [z, ho'] at ho; cases ho; rw [hd'] at hd; cases hd
theorem Inv.funs (I : Inv X pins σ H s) : s.heap.FunFrames X.base X.outer := by
  have all : ∀ (l : List Env), (∀ b ∈ frs l, b ∈ X.fs) → X.s₀.heap.FunFrames X.base l → s.heap.FunFrames X.base l := by
    intro l
    induction l with
    | nil => intro _ _; trivial
    | cons env r ih =>
      intro hs hl
      obtain ⟨hk, ⟨L, o, hf, hn, ho, hd⟩, hr⟩ := hl
      have hL : L ∈ X.fs := hs L (by unfold frs; rw [List.filterMap_cons, hf]; exact List.mem_cons_self)
      obtain ⟨sl, e⟩ := I.base.slot L o ho (I.ok.frf L hL) hL fun z => I.ok.exfs L z hL
      exact ⟨hk, ⟨L, _, hf, hn, e, hd⟩, ih (fun b hb => hs b (by unfold frs; rw [List.filterMap_cons, hf]; exact List.mem_cons_of_mem _ hb)) hr⟩
  exact all X.outer (fun _ hb => hb) I.ok.funs

/-- the frames that run, for a call -/
theorem Inv.stack (I : Inv X pins σ H s) : s.heap.FunFrames X.base X.stack := by
  rcases I.ok.stk with e | ⟨e, hf⟩
  · rw [e]; exact I.funs
  · rw [e]
    obtain ⟨m, hn, _⟩ := I.loc
    refine .cons (by rw [I.ok.kind]; decide) hf hn ?_ I.funs
    exact Heap.get?_none_of_le (Nat.le_trans I.ok.bsz I.ok.above)
theorem Inv.stkSub (I : Inv X pins σ H s) : ∀ b ∈ frs X.stack, b ∈ X.env.locals :: X.fs := fun b hb => by
  rcases I.ok.stk with e | ⟨e, hf⟩
  · rw [e] at hb; exact List.mem_cons_of_mem _ hb
  · rw [e] at hb
    unfold frs at hb
    rw [List.filterMap_cons, hf] at hb
    exact hb
theorem Inv.stkFree (I : Inv X pins σ H s) : ∀ b ∈ frs X.stack, H b = none := fun b hb => by
  rcases List.mem_cons.mp (I.stkSub b hb) with e | hb
  · rw [e]; exact I.free
  · obtain ⟨_, o, ho, _⟩ := I.ok.funs.mem hb
    exact I.base.free b o ho (I.ok.frf b hb) fun z => I.ok.exfs b z hb

/-- THE STEP: the untracked objects but the frame and the records at ch are kept (the callers' frames up to slots), the frame's map is kept, the new abstract heap is held -/
theorem Inv.step {g' : Array GenState} {t' : Nat} {d' : Drawn} {ch : List Addr} (I : Inv X pins σ H s)
    (hch : ∀ b ∈ ch, (b ∈ X.ex ∨ X.s₀.heap.objs.size ≤ b) ∧ b ≠ X.env.locals ∧ (∀ x c, X.env.cells.lookup x = some c → c ≠ b) ∧ ∀ p ∈ X.pn ++ pins, p.1 ≠ b)
    (keep : ∀ b o, b ≠ X.env.locals → b ∉ X.fs → b ∉ ch → s.heap.get? b = some o → H b = none → h'.get? b = some o)
    (slot : ∀ b o, b ≠ X.env.locals → b ∈ X.fs → b ∉ ch → s.heap.get? b = some o → H b = none → ∃ sl, h'.get? b = some { o with slots := sl }) (free : ∀ b o, b ∉ ch → s.heap.get? b = some o → H b = none → H' b = none)
    (there : ∀ b o, b ∉ ch → s.heap.get? b = some o → ∃ o', h'.get? b = some o')
    (tups : ∀ b xs, H b = some (.tup xs) → H' b = some (.tup xs)) (frzs : ∀ b o u, H b = some (.frz o u) → H' b = some (.frz o u)) (tbls : ∀ b ps, H b = some (.tbl ps) → ∃ more, H' b = some (.tbl (ps ++ more)))
    (ns : ∀ m, s.heap.Ns X.env.locals m → h'.Ns X.env.locals m) (hok : HOk X.prog X.w H' h') (hg : AllBare g') :
    Inv X pins σ H' { s with heap := h', gens := g', drawn := d', toks := t' } := by
  have neL : ∀ b o, X.s₀.heap.get? b = some o → b ≠ X.env.locals := fun b o e => Nat.ne_of_lt (Nat.lt_of_lt_of_le (Heap.lt_size e) I.ok.above)
  have neC : ∀ b o, X.s₀.heap.get? b = some o → b ∉ X.ex → b ∉ ch := fun b o e hx hb => by
    rcases (hch b hb).1 with z | z
    · exact hx z
    · exact absurd (Nat.lt_of_lt_of_le (Heap.lt_size e) z) (Nat.lt_irrefl _)
  have cellK : ∀ x c, X.env.cells.lookup x = some c → ∀ v, s.heap.IsCell c v → h'.IsCell c v := fun x c e v ⟨o, ho, hd⟩ => by
    have nch : c ∉ ch := fun z => (hch c z).2.2.1 x c e rfl
    by_cases hc : c ∈ X.fs
    · obtain ⟨sl, q⟩ := slot c o (I.cne x c e) hc nch ho (I.freeC x c e)
      exact ⟨_, q, hd⟩
    · exact ⟨o, keep c o (I.cne x c e) hc nch ho (I.freeC x c e), hd⟩
  refine ⟨I.ok, I.os, hg, ⟨fun b o e n hb hx => ?_, fun b o e n hb hx => ?_, fun b o e n hx => ?_, fun b o e hx => ?_, fun b xs e => tups b xs (I.base.tups b xs e), fun b o xs e => frzs b o xs (I.base.frzs b o xs e), fun b ps e => ?_⟩, ?_, fun x c e => ?_, ?_, fun x c e => ?_, fun p hp => ?_, hok, I.len⟩
  · exact keep b o (neL b o e) hb (neC b o e hx) (I.base.keep b o e n hb hx) (I.base.free b o e n hx)
  · obtain ⟨sl, e1⟩ := I.base.slot b o e n hb hx
    obtain ⟨sl', e2⟩ := slot b _ (neL b o e) hb (neC b o e hx) e1 (I.base.free b o e n hx)
    exact ⟨sl', e2⟩
  · obtain ⟨o', e1⟩ := I.base.there b o e hx
    exact free b o' (neC b o e hx) e1 (I.base.free b o e n hx)
  · obtain ⟨o', e1⟩ := I.base.there b o e hx
    exact there b o' (neC b o e hx) e1
  · obtain ⟨m1, e1⟩ := I.base.tbls b ps e
    obtain ⟨m2, e2⟩ := tbls b _ e1
    exact ⟨m1 ++ m2, by rw [e2, Array.append_assoc]⟩
  · obtain ⟨m, hn, hl⟩ := I.loc
    refine ⟨m, ns m hn, fun i x v e1 e2 e3 => ?_⟩
    obtain ⟨u, r, l⟩ := hl i x v e1 e2 e3
    refine ⟨u, r, ?_⟩
    rcases l with l | ⟨k, c, e, z⟩
    · exact .inl l
    · exact .inr ⟨k, c, e, cellK x c e _ z⟩
  · obtain ⟨v, z⟩ := I.cell x c e
    exact ⟨v, cellK x c e v z⟩
  · obtain ⟨m, ⟨o, _, _, ho, _⟩, _⟩ := I.loc
    exact free _ o (fun z => (hch _ z).2.1 rfl) ho I.free
  · obtain ⟨v, o, ho, hd⟩ := I.cell x c e
    exact free c o (fun z => (hch c z).2.2.1 x c e rfl) ho (I.freeC x c e)
  · obtain ⟨e, n, ne, nf, d⟩ := I.pin p hp
    have nch : p.1 ∉ ch := fun z => (hch p.1 z).2.2.2 p hp rfl
    exact ⟨keep p.1 p.2 ne nf nch e n, free p.1 p.2 nch e n, ne, nf, d⟩
/-- .. where the frame's own object is kept too -/
theorem Inv.un {t' : Nat} (I : Inv X pins σ H s) (u : Un X.fs [] H H' s.heap h') (hok : HOk X.prog X.w H' h') : Inv X pins σ H' { s with heap := h', toks := t' } := by
  obtain ⟨m, ⟨o, es, ep, ho, r⟩, _⟩ := id I.loc
  obtain ⟨sl, hL⟩ := u.any ho I.free (by simp)
  exact I.step (g' := s.gens) (d' := s.drawn) (ch := []) (fun _ z => nomatch z) (fun b o _ hb _ e n => u.keep b o e n hb (by simp)) (fun b o _ hb _ e n => u.slot b o e n hb (by simp)) (fun b o _ e n => u.free b o e n (by simp)) (fun b o _ e => u.there b o e (by simp)) u.tups u.frzs u.tbls (fun m' hm => by
    obtain ⟨o', es', ep', ho', r'⟩ := hm
    rw [ho] at ho'; cases ho'
    exact ⟨_, es', ep', hL, r'⟩) hok I.bare
/-- behind a call (or a comprehension's block): the slots of this frame may have changed too, the records at ch may have turned -/
theorem Inv.call {g' : Array GenState} {t' : Nat} {d' : Drawn} {ch : List Addr} (I : Inv X pins σ H s) (u : Un (frs X.stack) ch H H' s.heap h') (hok : HOk X.prog X.w H' h') (hg : AllBare g')
    (hch : ∀ b ∈ ch, (b ∈ X.ex ∨ X.s₀.heap.objs.size ≤ b) ∧ b ≠ X.env.locals ∧ (∀ x c, X.env.cells.lookup x = some c → c ≠ b) ∧ ∀ p ∈ X.pn ++ pins, p.1 ≠ b) :
    Inv X pins σ H' { s with heap := h', gens := g', drawn := d', toks := t' } := by
  obtain ⟨m, ⟨o, es, ep, ho, r⟩, _⟩ := id I.loc
  obtain ⟨sl, hL⟩ := u.any ho I.free fun z => (hch _ z).2.1 rfl
  exact I.step (ch := ch) hch (fun b o hL hb hc e n => u.keep b o e n (fun z => (List.mem_cons.mp (I.stkSub b z)).elim hL hb) hc) (fun b o _ _ hc e n => u.any e n hc) (fun b o hc e n => u.free b o e n hc) (fun b o hc e => u.there b o e hc) u.tups u.frzs u.tbls (fun m' hm => by
    obtain ⟨o', es', ep', ho', r'⟩ := hm
    rw [ho] at ho'; cases ho'
    exact ⟨_, es', ep', hL, r'⟩) hok hg
/-- an untracked record of ours (an iterator) has turned -/
theorem Inv.turned {t' : Nat} {it : Addr} (I : Inv X pins σ H s) (k : ∀ b o, b ≠ it → s.heap.get? b = some o → h'.get? b = some o) (hn : H it = none) (hL : it ≠ X.env.locals)
    (h1 : it ∈ X.ex ∨ X.s₀.heap.objs.size ≤ it) (h2 : ∀ x c, X.env.cells.lookup x = some c → c ≠ it) (h3 : ∀ p ∈ X.pn ++ pins, p.1 ≠ it) : Inv X pins σ H { s with heap := h', toks := t' } := by
  have nit : ∀ b u, H b = some u → b ≠ it := fun b u e z => by rw [z, hn] at e; cases e
  refine I.step (g' := s.gens) (d' := s.drawn) (ch := [it]) (fun b hb => ?_) (fun b o _ _ hc e _ => k b o (fun z => hc (by simp [z])) e) (fun b o _ _ hc e _ => ⟨o.slots, k b o (fun z => hc (by simp [z])) e⟩) (fun _ _ _ _ n => n)
    (fun b o hc e => ⟨o, k b o (fun z => hc (by simp [z])) e⟩) (fun _ _ e => e) (fun _ _ _ e => e) (fun b ps e => ⟨#[], by rw [e]; simp⟩) (fun m hm => ?_) (fun b u e => ?_) I.bare
  · have e : b = it := by simpa using hb
    subst e
    exact ⟨h1, hL, h2, h3⟩
  · obtain ⟨o, es, ep, ho, r⟩ := hm
    exact ⟨o, es, ep, k _ o (Ne.symm hL) ho, r⟩
  · refine (I.hok b u e).stay (fun c v hc q => k c v ?_ q) (fun _ q => q) fun _ _ q => q
    rcases hc with z | z
    · rw [z]; exact nit b u e
    · exact nit c _ z
theorem Inv.tok (I : Inv X pins σ H s) (t : Nat) : Inv X pins σ H { s with toks := t } := I.un (h' := s.heap) (t' := t) Un.refl I.hok
/-- all objects kept -/
theorem Inv.kept {t' : Nat} (I : Inv X pins σ H s) (k : ∀ b u, s.heap.get? b = some u → h'.get? b = some u) : Inv X pins σ H { s with heap := h', toks := t' } := I.un (Un.kept k) (I.hok.kept k)
/-- a new object laid and tracked -/
theorem Inv.laid {a : Addr} {o : HO} {t' : Nat} (I : Inv X pins σ H s) (k : ∀ b u, s.heap.get? b = some u → h'.get? b = some u) (hp : s.heap.objs.size ≤ a) (new : ObjOk X.prog X.w (upd H a o) h' a o) :
    Inv X pins σ (upd H a o) { s with heap := h', toks := t' } := I.un (Un.laid k hp (I.hok.fresh hp)) (I.hok.laid k hp new)
/-- an object written -/
theorem Inv.write {x e : Addr} {o : HO} {t' : Nat} (I : Inv X pins σ H s) (mu : Mut (H x)) (he : e = x ∨ H e = some (.own x)) (k : ∀ b u, b ≠ e → s.heap.get? b = some u → h'.get? b = some u) (heo : ∃ u, h'.get? e = some u)
    (new : ObjOk X.prog X.w (upd H x o) h' x o) : Inv X pins σ (upd H x o) { s with heap := h', toks := t' } := I.un (Un.write mu he k heo) (I.hok.write mu he k heo new)
/-- forgetting slots, pins -/
theorem Inv.weak {σ' : List (Option V)} (I : Inv X pins σ H s) (hl : σ'.length = σ.length) (w : ∀ (i : Nat) v, σ'[i]? = some (some v) → σ[i]? = some (some v)) : Inv X pins σ' H s :=
  ⟨I.ok, I.os, I.bare, I.base, let ⟨m, hn, hl'⟩ := I.loc; ⟨m, hn, fun i x v e1 e2 e3 => hl' i x v e1 (w i v e2) e3⟩, I.cell, I.free, I.freeC, I.pin, I.hok, hl.trans I.len⟩
theorem Inv.pins_of {pins' : List (Addr × Obj)} (I : Inv X pins σ H s) (h : ∀ p ∈ pins', s.heap.get? p.1 = some p.2 ∧ H p.1 = none ∧ p.1 ≠ X.env.locals ∧ p.1 ∉ X.fs ∧ ∀ v, p.2.data ≠ .cell v) : Inv X pins' σ H s :=
  ⟨I.ok, I.os, I.bare, I.base, I.loc, I.cell, I.free, I.freeC, fun p hp => (List.mem_append.mp hp).elim (fun z => I.pin p (List.mem_append_left _ z)) (h p), I.hok, I.len⟩

theorem nodup_ix {N : List Str} (hN : N.Nodup) {i j : Nat} {x : Str} (a : N[i]? = some x) (b : N[j]? = some x) : i = j := by
  obtain ⟨h1, e1⟩ := List.getElem?_eq_some_iff.mp a
  obtain ⟨h2, e2⟩ := List.getElem?_eq_some_iff.mp b
  exact (List.getElem_inj hN).mp (e1.trans e2.symm)

/-- a name is stored; what changed -/
theorem store_ok2 {M : Model} {A : Around} {E : Value → Shared → Prop} {i : Nat} {x : Str} {v : V} {u : Value} {Q : Unit → Shared → Prop} (I : Inv X pins σ H s) (hN : X.N.Nodup) (hi : X.N[i]? = some x) (hx : Loc X.env.scope x) (r : RelV v u)
    (h : ∀ s', Inv X pins (σ.set i (some v)) H s' → (∃ a, Heap.SameBut a s.heap s'.heap ∧ (a = X.env.locals ∨ X.env.cells.lookup x = some a)) → Q () s') (hf : X.fn x = true ∨ X.env.scope.names.lookup x = some .local := by first | exact .inl rfl | exact .inr rfl | assumption) : wpAny M A (storeName X.env x u) Q E s := by
  obtain ⟨m, hn, hl⟩ := id I.loc
  have hcls : (X.env.scope.kind == .class || (X.env.scope.kind == .module && X.env.locals != X.env.globals)) = false := by rw [I.ok.kind]; rfl
  have hiσ : i < σ.length := by rw [I.len]; exact (List.getElem?_eq_some_iff.mp hi).1
  have cne := I.cne
  have tracked : ∀ {a : Addr} {h' : Heap}, (∃ o, s.heap.get? a = some o ∧ H a = none) → Heap.SameBut a s.heap h' → HOk X.prog X.w H h' := fun {a h'} ha hs b ob e => by
    obtain ⟨_, _, hfree⟩ := ha
    refine (I.hok b ob e).stay (fun c w' hc q => (hs.2 c ?_).trans q) (fun _ q => q) fun _ _ q => q
    rintro rfl
    rcases hc with rfl | hc
    · rw [hfree] at e; cases e
    · rw [hfree] at hc; cases hc
  rcases hx with hk | hk
  · refine wpAny_storeName_local hk hn (fun h' hn' hs => ?_) hcls
    obtain ⟨oL, _, _, hoL, _⟩ := id hn
    refine h _ ⟨I.ok, I.os, I.bare, ⟨fun b o e n hb hx => ?_, fun b o e n hb hx => ?_, I.base.free, fun b o e hx => ?_, I.base.tups, I.base.frzs, I.base.tbls⟩, ⟨_, hn', fun j y v' e1 e2 e3 => ?_⟩, fun y c e => ?_, I.free, I.freeC, fun p hp => ?_, tracked ⟨oL, hoL, I.free⟩ hs, by simpa using I.len⟩ ⟨_, hs, .inl rfl⟩
    · exact (hs.2 b (Nat.ne_of_lt (Nat.lt_of_lt_of_le (Heap.lt_size e) I.ok.above))).trans (I.base.keep b o e n hb hx)
    · obtain ⟨sl, e1⟩ := I.base.slot b o e n hb hx
      exact ⟨sl, (hs.2 b (Nat.ne_of_lt (Nat.lt_of_lt_of_le (Heap.lt_size e) I.ok.above))).trans e1⟩
    · obtain ⟨o', e1⟩ := I.base.there b o e hx
      exact ⟨o', (hs.2 b (Nat.ne_of_lt (Nat.lt_of_lt_of_le (Heap.lt_size e) I.ok.above))).trans e1⟩
    · by_cases hj : j = i
      · subst hj
        rw [hi] at e1; cases e1
        rw [List.getElem?_set_self hiσ] at e2
        cases e2
        exact ⟨u, r, .inl ⟨hk, by simp⟩⟩
      · rw [List.getElem?_set_ne (Ne.symm hj)] at e2
        obtain ⟨u', r', q⟩ := hl j y v' e1 e2 e3
        refine ⟨u', r', ?_⟩
        rcases q with ⟨k, e⟩ | ⟨k, c, e, z⟩
        · refine .inl ⟨k, ?_⟩
          have : y ≠ x := fun e => hj (nodup_ix hN e1 (e ▸ hi))
          simp [this, e]
        · exact .inr ⟨k, c, e, z.sameBut hs (cne y c e)⟩
    · obtain ⟨w', z⟩ := I.cell y c e
      exact ⟨w', z.sameBut hs (cne y c e)⟩
    · obtain ⟨e, n, ne, nf, d⟩ := I.pin p hp
      exact ⟨(hs.2 p.1 ne).trans e, n, ne, nf, d⟩
  · have hfn : X.fn x = true := by
      rcases hf with z | z
      · exact z
      · rw [z] at hk; cases hk
    obtain ⟨c, hc⟩ := I.ok.has x (.inl hk)
    obtain ⟨w', z⟩ := I.cell x c hc
    refine wpAny_storeName_cell I.ok.kind hk hc z (fun h' hc' hs => ?_)
    obtain ⟨oc, hoc, hocd⟩ := id z
    refine h { s with heap := h' } ⟨I.ok, I.os, I.bare, ⟨fun b o e n hb hx => ?_, fun b o e n hb hx => ?_, I.base.free, fun b o e hx => ?_, I.base.tups, I.base.frzs, I.base.tbls⟩, ⟨m, hn.sameBut hs (Ne.symm (cne x c hc)), fun j y v' e1 e2 e3 => ?_⟩, fun y c' e => ?_, I.free, I.freeC, fun p hp => ?_, tracked ⟨oc, hoc, I.freeC x c hc⟩ hs, by simpa using I.len⟩ ⟨c, hs, .inr hc⟩
    · exact (hs.2 b (Nat.ne_of_lt (Nat.lt_of_lt_of_le (Heap.lt_size e) (I.ok.cab x c hfn hc)))).trans (I.base.keep b o e n hb hx)
    · obtain ⟨sl, e1⟩ := I.base.slot b o e n hb hx
      exact ⟨sl, (hs.2 b (Nat.ne_of_lt (Nat.lt_of_lt_of_le (Heap.lt_size e) (I.ok.cab x c hfn hc)))).trans e1⟩
    · obtain ⟨o', e1⟩ := I.base.there b o e hx
      exact ⟨o', (hs.2 b (Nat.ne_of_lt (Nat.lt_of_lt_of_le (Heap.lt_size e) (I.ok.cab x c hfn hc)))).trans e1⟩
    · by_cases hj : j = i
      · subst hj
        rw [hi] at e1; cases e1
        rw [List.getElem?_set_self hiσ] at e2
        cases e2
        exact ⟨u, r, .inr ⟨.inl hk, c, hc, hc'⟩⟩
      · rw [List.getElem?_set_ne (Ne.symm hj)] at e2
        obtain ⟨u', r', q⟩ := hl j y v' e1 e2 e3
        refine ⟨u', r', ?_⟩
        rcases q with q | ⟨k, c', e, z'⟩
        · exact .inl q
        · refine .inr ⟨k, c', e, z'.sameBut hs ?_⟩
          rintro rfl
          exact hj (nodup_ix hN e1 (I.ok.inj _ _ _ e hc ▸ hi))
    · by_cases hcc : c' = c
      · subst hcc; exact ⟨_, hc'⟩
      · obtain ⟨w2, z2⟩ := I.cell y c' e
        exact ⟨w2, z2.sameBut hs hcc⟩
    · obtain ⟨e, n, ne, nf, d⟩ := I.pin p hp
      refine ⟨(hs.2 p.1 ?_).trans e, n, ne, nf, d⟩
      intro q
      rw [q, hoc] at e
      have q' : oc = p.2 := Option.some.inj e
      exact d w' (by rw [← q']; exact hocd)
theorem store_ok {M : Model} {A : Around} {E : Value → Shared → Prop} {i : Nat} {x : Str} {v : V} {u : Value} {Q : Unit → Shared → Prop} (I : Inv X pins σ H s) (hN : X.N.Nodup) (hi : X.N[i]? = some x) (hx : Loc X.env.scope x) (r : RelV v u)
    (h : ∀ s', Inv X pins (σ.set i (some v)) H s' → Q () s') (hf : X.fn x = true ∨ X.env.scope.names.lookup x = some .local := by first | exact .inl rfl | exact .inr rfl | assumption) : wpAny M A (storeName X.env x u) Q E s :=
  store_ok2 I hN hi hx r (fun s' I' _ => h s' I') hf
/-- behind a call or a block, the state as it is -/
theorem Inv.call' {s' : Shared} {ch : List Addr} (I : Inv X pins σ H s) (ho : s'.os = s.os) (u : Un (frs X.stack) ch H H' s.heap s'.heap) (hok : HOk X.prog X.w H' s'.heap) (hg : AllBare s'.gens)
    (hch : ∀ b ∈ ch, (b ∈ X.ex ∨ X.s₀.heap.objs.size ≤ b) ∧ b ≠ X.env.locals ∧ (∀ x c, X.env.cells.lookup x = some c → c ≠ b) ∧ ∀ p ∈ X.pn ++ pins, p.1 ≠ b) : Inv X pins σ H' s' := by
  obtain ⟨h', g', d', t', o'⟩ := s'
  have e : o' = s.os := ho
  subst e
  exact I.call (g' := g') (t' := t') (d' := d') u hok hg hch
end

/-! ### the judgements -/
/-- an exception: its class, its own dict's address (where it has one), the abstract heap behind it -/
abbrev XK := Value → Option Addr → Hp → Prop
abbrev St := List (Option V)
abbrev VK := V → Hp → Prop
/-- an expression's reading; a test's; an argument list's -/
abbrev TE := St → Hp → VK → Prop
abbrev TT := St → Hp → (Bool → Hp → Prop) → Prop
abbrev TA := St → Hp → (List V → Hp → Prop) → Prop
/-- what is wanted behind a statement -/
structure Ends where
  nx : St → Hp → Prop
  rt : VK
  bk : St → Hp → Prop := fun _ _ => False
  ct : St → Hp → Prop := fun _ _ => False
abbrev TS := Ends → St → Hp → Prop

def EP (X : Cx) (pins : List (Addr × Obj)) (σ : St) (Q : VK) (u : Value) (s' : Shared) : Prop := ∃ v H', Inv X pins σ H' s' ∧ RelV v u ∧ Q v H'
def TP (X : Cx) (pins : List (Addr × Obj)) (σ : St) (Q : Bool → Hp → Prop) (b : Bool) (s' : Shared) : Prop := ∃ H', Inv X pins σ H' s' ∧ Q b H'
def AP (X : Cx) (pins : List (Addr × Obj)) (σ : St) (Q : List V → Hp → Prop) (us : List Value) (s' : Shared) : Prop := ∃ vs H', Inv X pins σ H' s' ∧ Vals vs us ∧ Q vs H'
def SP (X : Cx) (pins : List (Addr × Obj)) (D : Ends) (f : Flow) (s' : Shared) : Prop :=
  match f with
  | .next => ∃ σ' H', Inv X pins σ' H' s' ∧ D.nx σ' H'
  | .brk => ∃ σ' H', Inv X pins σ' H' s' ∧ D.bk σ' H'
  | .cont => ∃ σ' H', Inv X pins σ' H' s' ∧ D.ct σ' H'
  | .ret u => ∃ v σ' H', Inv X pins σ' H' s' ∧ RelV v u ∧ D.rt v H'

def PE (X : Cx) (e : Expr) (t : TE) : Prop :=
  ∀ (pins : List (Addr × Obj)) (s : Shared) (σ : St) (H : Hp) (Q : VK), Inv X pins σ H s → t σ H Q → wpAny (model X.prog X.w) X.A (eval e X.env) (EP X pins σ Q) X.xe s
def PT (X : Cx) (e : Expr) (t : TT) : Prop :=
  ∀ (pins : List (Addr × Obj)) (s : Shared) (σ : St) (H : Hp) (Q : Bool → Hp → Prop), Inv X pins σ H s → t σ H Q → wpAny (model X.prog X.w) X.A (isTrue e X.env (eval e X.env)) (TP X pins σ Q) X.xe s
/-- a test whatever its 'whole' is (and, or) -/
def PW (X : Cx) (e : Expr) (t : TT) : Prop :=
  ∀ (whole : Sem Value) (pins : List (Addr × Obj)) (s : Shared) (σ : St) (H : Hp) (Q : Bool → Hp → Prop), Inv X pins σ H s → t σ H Q → wpAny (model X.prog X.w) X.A (isTrue e X.env whole) (TP X pins σ Q) X.xe s
theorem PW.pt {X : Cx} {e : Expr} {t : TT} (h : PW X e t) : PT X e t := h _
/-- an argument list (no star), from the left -/
def PA (X : Cx) (es : List Expr) (t : TA) : Prop :=
  ∀ (pos : Pos) (pins : List (Addr × Obj)) (s : Shared) (σ : St) (H : Hp) (Q : List V → Hp → Prop), Inv X pins σ H s → t σ H Q → wpAny (model X.prog X.w) X.A (spliced (backTo pos (starEach es X.env))) (AP X pins σ Q) X.xe s
def PS (X : Cx) (st : Stmt) (t : TS) : Prop :=
  ∀ (pins : List (Addr × Obj)) (s : Shared) (σ : St) (H : Hp) (D : Ends), Inv X pins σ H s → t D σ H → wpAny (model X.prog X.w) X.A (exec st X.env) (SP X pins D) X.xe s
def PSs (X : Cx) (st : List Stmt) (t : TS) : Prop :=
  ∀ (pins : List (Addr × Obj)) (s : Shared) (σ : St) (H : Hp) (D : Ends), Inv X pins σ H s → t D σ H → wpAny (model X.prog X.w) X.A (execs st X.env) (SP X pins D) X.xe s
/-- weaken the end -/
theorem thn {α : Type} {t : Sem α} {Q Q' : α → Shared → Prop} {M : Model} {A : Around} {E : Value → Shared → Prop} {s : Shared} (h : wpAny M A t Q E s) (hQ : ∀ a s, Q a s → Q' a s) : wpAny M A t Q' E s := wpAny_mono h hQ fun _ _ x => x
end L2

namespace L2
open PySem PySem.Spec PyProof.Rows
section
variable {X : Cx}

/-- two expressions in a row -/
theorem bin {a b : Expr} {ta tb : TE} (ha : PE X a ta) (hb : PE X b tb) {pins : List (Addr × Obj)} {s : Shared} {σ : St} {H : Hp} {R : V → V → Hp → Prop} (I : Inv X pins σ H s) (h : ta σ H fun x H1 => tb σ H1 fun y H2 => R x y H2)
    {α : Type} {Q : α → Shared → Prop} {f : Value → Value → Sem α}
    (hf : ∀ v u s2 x y H2, Inv X pins σ H2 s2 → RelV x v → RelV y u → R x y H2 → wpAny (model X.prog X.w) X.A (f v u) Q X.xe s2) :
    wpAny (model X.prog X.w) X.A (eval a X.env) (fun v s₁ => wpAny (model X.prog X.w) X.A (eval b X.env) (fun u s₂ => wpAny (model X.prog X.w) X.A (f v u) Q X.xe s₂) X.xe s₁) X.xe s := by
  refine thn (ha pins s σ H _ I h) fun v s1 ⟨x, H1, I1, r1, q1⟩ => ?_
  refine thn (hb pins s1 σ H1 _ I1 q1) fun u s2 ⟨y, H2, I2, r2, q2⟩ => ?_
  exact hf v u s2 x y H2 I2 r1 r2 q2

/-! ### names and constants -/
def tVar (i : Nat) : TE := fun σ H Q => ∃ v, σ[i]? = some (some v) ∧ Q v H
def tC (v : V) : TE := fun _ H Q => Q v H
theorem pe_var {i : Nat} {x : Str} {pos : Pos} (hN : X.N[i]? = some x) (hv : Vis X.env.scope x) (hd : (x == ("__debug__" : Str)) = false := by decide) (hcd : (x == ("__classdict__" : Str)) = false := by decide) : PE X (.Name x pos) (tVar i) := by
  intro pins s σ H Q I h
  obtain ⟨v, e, h⟩ := h
  obtain ⟨m, hn, hl⟩ := I.loc
  obtain ⟨u, r, l⟩ := hl i x v hN e hv
  have fin : EP X pins σ Q u s := ⟨v, H, I, r, h⟩
  rcases l with ⟨hk, hm⟩ | ⟨hk, c, hc, hcell⟩
  · exact wpAny_Name (wpAny_loadName_local I.ok.kind hk hn hm fin) hd
  · rcases hk with hk | hk
    · exact wpAny_Name (wpAny_loadName_cell I.ok.kind hk hc hcell fin) hd
    · exact wpAny_Name (wpAny_loadName_free I.ok.kind hk hc hcell fin hcd) hd
theorem pe_int {i j pos} : PE X (.Constant (.int i) j pos) (tC (.int i)) := fun _ _ _ H _ I h => wpAny_Constant_int ⟨.int i, H, I.tok _, ⟨_, rfl⟩, h⟩
theorem pe_bl {b j pos} : PE X (.Constant (.bool b) j pos) (tC (.bl b)) := fun _ _ _ H _ I h => Constant_bool ⟨.bl b, H, I, rfl, h⟩
theorem pe_non {j pos} : PE X (.Constant .none j pos) (tC .non) := fun _ _ _ H _ I h => Constant_none ⟨.non, H, I, rfl, h⟩
theorem pe_str {x j pos} : PE X (.Constant (.str x) j pos) (tC (.str x)) := fun _ _ _ H _ I h => Calls.Constant_str ⟨.str x, H, I.tok _, ⟨_, rfl⟩, h⟩

/-- a global name of the def -/
def Gl (X : Cx) (x : Str) : Prop := X.env.kindOf x = some .globalImplicit
theorem ld_glob {E : Value → Shared → Prop} {pins : List (Addr × Obj)} {s : Shared} {σ : St} {H : Hp} {x : Str} {u : Value} {pos : Pos} {Q : Value → Shared → Prop} (I : Inv X pins σ H s) (hg : Gl X x) (hm : X.mg x = some u) (h : Q u s)
    (hd : (x == ("__debug__" : Str)) = false := by decide) : wpAny (model X.prog X.w) X.A (eval (.Name x pos) X.env) Q E s :=
  Calls.Name_function_global I.ok.kind hg (Calls.loadGlobal_global (by rw [I.ok.glob]; exact I.mod.glob.keeps I.bk) hm h) hd
theorem ld_blt {E : Value → Shared → Prop} {pins : List (Addr × Obj)} {s : Shared} {σ : St} {H : Hp} {x : Str} {u : Value} {pos : Pos} {Q : Value → Shared → Prop} (I : Inv X pins σ H s) (hg : Gl X x) (hm : X.mg x = none) (hv : bootBuiltins x = some u) (h : Q u s)
    (hn : x ≠ "__name__" := by decide) (hd : (x == ("__debug__" : Str)) = false := by decide) : wpAny (model X.prog X.w) X.A (eval (.Name x pos) X.env) Q E s := by
  obtain ⟨mb, h1, h2⟩ := I.mod.blt
  exact Calls.Name_function_global I.ok.kind hg (Calls.loadGlobal_builtin (by rw [I.ok.glob]; exact I.mod.glob.keeps I.bk) hm (by rw [I.ok.blt]; exact h1.keeps I.bk) ((h2 x hn).trans hv) h) hd
/-- a module's constant, a class, a function, as a value -/
theorem pe_glob {x : Str} {v : V} {u : Value} {pos : Pos} (hg : Gl X x) (hm : X.mg x = some u) (r : RelV v u) (hd : (x == ("__debug__" : Str)) = false := by decide) : PE X (.Name x pos) (tC v) :=
  fun _ _ _ H _ I h => ld_glob I hg hm ⟨v, H, I, r, h⟩ hd
theorem pe_bltn {x : Str} {v : V} {u : Value} {pos : Pos} (hg : Gl X x) (hm : X.mg x = none) (hv : bootBuiltins x = some u) (r : RelV v u) (hn : x ≠ "__name__" := by decide) (hd : (x == ("__debug__" : Str)) = false := by decide) : PE X (.Name x pos) (tC v) :=
  fun _ _ _ H _ I h => ld_blt I hg hm hv ⟨v, H, I, r, h⟩ hn hd

/-! ### arithmetic -/
/-- two ints -/
def t2I (ta tb : TE) (k : Int → Int → Hp → Prop) : St → Hp → Prop := fun σ H => ta σ H fun x H1 => tb σ H1 fun y H2 => ∃ i j, x = .int i ∧ y = .int j ∧ k i j H2
def tAdd (ta tb : TE) : TE := fun σ H Q => t2I ta tb (fun i j H2 => Q (.int (i + j)) H2) σ H
def tSub (ta tb : TE) : TE := fun σ H Q => t2I ta tb (fun i j H2 => Q (.int (i - j)) H2) σ H
/-- the left factor below 2^64 -/
def tMul (ta tb : TE) : TE := fun σ H Q => t2I ta tb (fun i j H2 => (-(2 ^ 64) < i ∧ i < 2 ^ 64) ∧ Q (.int (i * j)) H2) σ H
variable {a b : Expr} {ta tb : TE} {pos : Pos}
theorem pe_add (ha : PE X a ta) (hb : PE X b tb) : PE X (.BinOp a .Add b pos) (tAdd ta tb) := by
  intro pins s σ H Q I h
  refine wpAny_BinOp (bin ha hb I h fun v u s2 x y H2 I2 rx ry q => ?_)
  obtain ⟨i, j, rfl, rfl, q⟩ := q
  obtain ⟨t, rfl⟩ := rx
  obtain ⟨t', rfl⟩ := ry
  exact add_int ⟨.int _, H2, I2.tok _, ⟨_, rfl⟩, q⟩
theorem pe_sub (ha : PE X a ta) (hb : PE X b tb) : PE X (.BinOp a .Sub b pos) (tSub ta tb) := by
  intro pins s σ H Q I h
  refine wpAny_BinOp (bin ha hb I h fun v u s2 x y H2 I2 rx ry q => ?_)
  obtain ⟨i, j, rfl, rfl, q⟩ := q
  obtain ⟨t, rfl⟩ := rx
  obtain ⟨t', rfl⟩ := ry
  exact sub_int ⟨.int _, H2, I2.tok _, ⟨_, rfl⟩, q⟩
theorem pe_mul (ha : PE X a ta) (hb : PE X b tb) : PE X (.BinOp a .Mult b pos) (tMul ta tb) := by
  intro pins s σ H Q I h
  refine wpAny_BinOp (bin ha hb I h fun v u s2 x y H2 I2 rx ry q => ?_)
  obtain ⟨i, j, rfl, rfl, ⟨q1, q2⟩, q⟩ := q
  obtain ⟨t, rfl⟩ := rx
  obtain ⟨t', rfl⟩ := ry
  exact mul_int ⟨.int _, H2, I2.tok _, ⟨_, rfl⟩, q⟩ (.of_left (intBits_le_64 q1 q2))

/-! ### comparisons -/
def PC (X : Cx) (op : CmpOp) (a b : Expr) (t : TE) : Prop :=
  ∀ (pins : List (Addr × Obj)) (s : Shared) (σ : St) (H : Hp) (Q : VK), Inv X pins σ H s → t σ H Q →
    wpAny (model X.prog X.w) X.A (eval a X.env) (fun v s₁ => wpAny (model X.prog X.w) X.A (eval b X.env) (fun u s₂ => wpAny (model X.prog X.w) X.A (compareOp op v u) (EP X pins σ Q) X.xe s₂) X.xe s₁) X.xe s
theorem nobehind (b : Expr) {op : CmpOp} (h : op ≠ .In) (h2 : op ≠ .NotIn) : behindInMarks op b = false := by
  have e1 : (op == CmpOp.In) = false := by cases op <;> first | rfl | exact absurd rfl h
  have e2 : (op == CmpOp.NotIn) = false := by cases op <;> first | rfl | exact absurd rfl h2
  cases b <;> simp [behindInMarks, e1, e2]
def tCmp (p : Int → Int → Bool) (ta tb : TE) : TE := fun σ H Q => t2I ta tb (fun i j H2 => Q (.bl (p i j)) H2) σ H
abbrev tLt : TE → TE → TE := tCmp fun i j => decide (i < j)
abbrev tLe : TE → TE → TE := tCmp fun i j => decide (i ≤ j)
abbrev tGt : TE → TE → TE := tCmp fun i j => decide (j < i)
abbrev tGe : TE → TE → TE := tCmp fun i j => decide (j ≤ i)
abbrev tEqI : TE → TE → TE := tCmp fun i j => decide (i = j)
abbrev tNeI : TE → TE → TE := tCmp fun i j => !decide (i = j)
/-- a comparison of two ints, by its rule -/
theorem pc_int {op : CmpOp} {p : Int → Int → Bool} (ha : PE X a ta) (hb : PE X b tb)
    (rule : ∀ (i j : Int) (t u : Tok) (Q : Value → Shared → Prop) (s : Shared), Q (.bool (p i j)) s → wpAny (model X.prog X.w) X.A (compareOp op (.int i t) (.int j u)) Q X.xe s) : PC X op a b (tCmp p ta tb) := by
  intro pins s σ H Q I h
  refine bin ha hb I h fun v u s2 x y H2 I2 rx ry q => ?_
  obtain ⟨i, j, rfl, rfl, q⟩ := q
  obtain ⟨t, rfl⟩ := rx
  obtain ⟨t', rfl⟩ := ry
  exact rule i j t t' _ s2 ⟨.bl _, H2, I2, rfl, q⟩
theorem pc_lt (ha : PE X a ta) (hb : PE X b tb) : PC X .Lt a b (tLt ta tb) := pc_int ha hb fun _ _ _ _ _ _ h => lt_int h
theorem pc_le (ha : PE X a ta) (hb : PE X b tb) : PC X .LtE a b (tLe ta tb) := pc_int ha hb fun _ _ _ _ _ _ h => le_int h
theorem pc_gt (ha : PE X a ta) (hb : PE X b tb) : PC X .Gt a b (tGt ta tb) := pc_int ha hb fun _ _ _ _ _ _ h => gt_int h
theorem pc_ge (ha : PE X a ta) (hb : PE X b tb) : PC X .GtE a b (tGe ta tb) := pc_int ha hb fun _ _ _ _ _ _ h => ge_int h
theorem pc_eqI (ha : PE X a ta) (hb : PE X b tb) : PC X .Eq a b (tEqI ta tb) := pc_int ha hb fun _ _ _ _ _ _ h => eq_int (by rw [Bool.beq_eq_decide_eq]; exact h)
theorem pc_neI (ha : PE X a ta) (hb : PE X b tb) : PC X .NotEq a b (tNeI ta tb) := pc_int ha hb fun _ _ _ _ _ _ h => ne_int (by rw [bne, Bool.beq_eq_decide_eq]; exact h)
/-- is None -/
def tIsN (ta : TE) : TE := fun σ H Q => ta σ H fun x H1 => Q (.bl (decide (x = .non))) H1
def tNotN (ta : TE) : TE := fun σ H Q => ta σ H fun x H1 => Q (.bl (!decide (x = .non))) H1
theorem RelV.none_iff {x : V} {v : Value} (r : RelV x v) : (v == Value.none) = decide (x = .non) := by
  cases x with
  | non => cases r; rfl
  | bl _ => cases r; rfl
  | int _ => obtain ⟨t, rfl⟩ := r; rfl
  | str _ => obtain ⟨t, rfl⟩ := r; rfl
  | byt _ => obtain ⟨t, rfl⟩ := r; rfl
  | flt _ => obtain ⟨t, rfl⟩ := r; rfl
  | ref _ => cases r; rfl
  | ty _ => cases r; rfl
theorem pc_isN {j pos'} (ha : PE X a ta) : PC X .Is a (.Constant .none j pos') (tIsN ta) := by
  intro pins s σ H Q I h
  refine thn (ha pins s σ H _ I h) fun v s1 ⟨x, H1, I1, r1, q1⟩ => ?_
  exact Constant_none (is_none_gen ⟨.bl _, H1, I1, by rw [r1.none_iff]; rfl, q1⟩)
theorem pc_notN {j pos'} (ha : PE X a ta) : PC X .IsNot a (.Constant .none j pos') (tNotN ta) := by
  intro pins s σ H Q I h
  refine thn (ha pins s σ H _ I h) fun v s1 ⟨x, H1, I1, r1, q1⟩ => ?_
  exact Constant_none (isnot_none_gen ⟨.bl _, H1, I1, by rw [r1.none_iff]; rfl, q1⟩)
/-- a comparison as a value, as a test -/
def tB (t : TE) : TT := fun σ H Q => t σ H fun x H1 => ∃ c, x = .bl c ∧ Q c H1
theorem pe_cmp {op : CmpOp} {t : TE} (h : PC X op a b t) (h1 : behindInMarks op b = false := by first | exact nobehind _ (by decide) (by decide) | rfl) : PE X (.Compare a [op] [b] pos) t := fun pins s σ H Q I hw => wpAny_Compare1 (h pins s σ H Q I hw) h1
theorem pt_cmp {op : CmpOp} {t : TE} (h : PC X op a b t) (h1 : behindInMarks op b = false := by first | exact nobehind _ (by decide) (by decide) | rfl) : PT X (.Compare a [op] [b] pos) (tB t) := by
  intro pins s σ H Q I hw
  refine wpAny_isTrue_Compare1 (thn (h pins s σ H _ I hw) fun v s1 h1 => thn h1 fun u s2 h2 => thn h2 fun c s3 ⟨x, H1, I1, r1, q1⟩ => ?_) h1
  obtain ⟨d, rfl, q⟩ := q1
  cases r1
  exact wpAny_truthy_bool ⟨H1, I1, q⟩
/-- an expression whose value is a bool, as a test -/
theorem pt_val {e : Expr} {t : TE} (h : PE X e t) (he : ∀ whole, isTrue e X.env whole = (do let v ← whole; standAt e.pos; holding [v] (truthy v)) := by intro _; rfl) : PT X e (tB t) := by
  intro pins s σ H Q I hw
  refine isTrue_plain (thn (h pins s σ H _ I hw) fun v s1 ⟨x, H1, I1, r1, q1⟩ => ?_) (he _)
  obtain ⟨d, rfl, q⟩ := q1
  cases r1
  exact wpAny_truthy_bool ⟨H1, I1, q⟩

/-! ### and, or, not -/
variable {tA tB' : TT} {rest : List Expr}
def tAnd (t u : TT) : TT := fun σ H Q => t σ H fun c H1 => if c = true then u σ H1 Q else Q false H1
def tOr (t u : TT) : TT := fun σ H Q => t σ H fun c H1 => if c = true then Q true H1 else u σ H1 Q
def tNot (t : TT) : TT := fun σ H Q => t σ H fun c H1 => Q (!c) H1
theorem pw_and1 (ha : PT X a tA) : PW X (.BoolOp .And [a] pos) tA := by
  intro wh pins s σ H Q I h
  refine isTrue_and (thn (ha pins s σ H Q I h) fun c s1 e => ?_)
  cases c with
  | true => exact isTrue_and_nil e
  | false => exact e
theorem pw_or1 (ha : PT X a tA) : PW X (.BoolOp .Or [a] pos) tA := by
  intro wh pins s σ H Q I h
  refine isTrue_or (thn (ha pins s σ H Q I h) fun c s1 e => ?_)
  cases c with
  | false => exact isTrue_or_nil e
  | true => exact e
theorem pw_and (ha : PT X a tA) (hb : PW X (.BoolOp .And (b :: rest) pos) tB') : PW X (.BoolOp .And (a :: b :: rest) pos) (tAnd tA tB') := by
  intro wh pins s σ H Q I h
  refine isTrue_and (thn (ha pins s σ H _ I h) fun c s1 ⟨H1, I1, q1⟩ => ?_)
  cases c with
  | true => exact hb wh pins s1 σ H1 Q I1 q1
  | false => exact ⟨H1, I1, q1⟩
theorem pw_or (ha : PT X a tA) (hb : PW X (.BoolOp .Or (b :: rest) pos) tB') : PW X (.BoolOp .Or (a :: b :: rest) pos) (tOr tA tB') := by
  intro wh pins s σ H Q I h
  refine isTrue_or (thn (ha pins s σ H _ I h) fun c s1 ⟨H1, I1, q1⟩ => ?_)
  cases c with
  | true => exact ⟨H1, I1, q1⟩
  | false => exact hb wh pins s1 σ H1 Q I1 q1
theorem pt_not (ha : PT X a tA) : PT X (.UnaryOp .Not a pos) (tNot tA) := by
  intro pins s σ H Q I h
  exact isTrue_not (ha pins s σ H (fun c H1 => Q (!c) H1) I h)
/-- .. as values (bools) -/
def tAndV (ta tb : TE) : TE := fun σ H Q => ta σ H fun x H1 => ∃ c, x = .bl c ∧ if c = true then tb σ H1 Q else Q (.bl false) H1
def tOrV (ta tb : TE) : TE := fun σ H Q => ta σ H fun x H1 => ∃ c, x = .bl c ∧ if c = true then Q (.bl true) H1 else tb σ H1 Q
def tNotV (ta : TE) : TE := fun σ H Q => ta σ H fun x H1 => ∃ c, x = .bl c ∧ Q (.bl (!c)) H1
theorem pe_one {op} {t : TE} (h : PE X a t) : PE X (.BoolOp op [a] pos) t := fun pins s σ H Q I hw => BoolOp_one (h pins s σ H Q I hw)
theorem pe_and (ha : PE X a ta) (hb : PE X (.BoolOp .And (b :: rest) pos) tb) : PE X (.BoolOp .And (a :: b :: rest) pos) (tAndV ta tb) := by
  intro pins s σ H Q I h
  refine BoolOp_and (thn (ha pins s σ H _ I h) fun v s1 ⟨x, H1, I1, r1, q1⟩ => ?_)
  obtain ⟨c, rfl, q1⟩ := q1
  cases r1
  refine wpAny_truthy_bool ?_
  cases c with
  | true => exact hb pins s1 σ H1 Q I1 q1
  | false => exact ⟨.bl false, H1, I1, rfl, q1⟩
theorem pe_or (ha : PE X a ta) (hb : PE X (.BoolOp .Or (b :: rest) pos) tb) : PE X (.BoolOp .Or (a :: b :: rest) pos) (tOrV ta tb) := by
  intro pins s σ H Q I h
  refine BoolOp_or (thn (ha pins s σ H _ I h) fun v s1 ⟨x, H1, I1, r1, q1⟩ => ?_)
  obtain ⟨c, rfl, q1⟩ := q1
  cases r1
  refine wpAny_truthy_bool ?_
  cases c with
  | false => exact hb pins s1 σ H1 Q I1 q1
  | true => exact ⟨.bl true, H1, I1, rfl, q1⟩
theorem pe_not (ha : PE X a ta) : PE X (.UnaryOp .Not a pos) (tNotV ta) := by
  intro pins s σ H Q I h
  refine UnaryOp_ (thn (ha pins s σ H _ I h) fun v s1 ⟨x, H1, I1, r1, q1⟩ => ?_)
  obtain ⟨c, rfl, q1⟩ := q1
  cases r1
  exact not_of (wpAny_truthy_bool ⟨.bl (!c), H1, I1, rfl, q1⟩)
/-- a if t else b -/
def tIf (t : TT) (ta tb : TE) : TE := fun σ H Q => t σ H fun c H1 => if c = true then ta σ H1 Q else tb σ H1 Q
theorem pe_ifExp {c : Expr} (hc : PT X c tA) (ha : PE X a ta) (hb : PE X b tb) : PE X (.IfExp c a b pos) (tIf tA ta tb) := by
  intro pins s σ H Q I h
  refine wpAny_IfExp (thn (hc pins s σ H _ I h) fun d s1 ⟨H1, I1, q1⟩ => ?_)
  cases d with
  | true => exact ha pins s1 σ H1 Q I1 q1
  | false => exact hb pins s1 σ H1 Q I1 q1
end
end L2

namespace L2
open PySem PySem.Spec PyProof.Rows

/-! ### a list, a tuple that is read: tracked, frozen, or an object of the module -/
def SqL (K : PySem.W.Frag) (H : Hp) (a : Addr) (xs : List V) : Prop :=
  Rd H a (.lst xs) ∨
    ∃ (o : Obj) (its : Array Value) (n : Nat), K.lookup a = some o ∧ o.cls = .type "list" ∧ o.dict = none ∧ o.data = .seq its n ∧ its.size ≤ sizeLine ∧ Vals xs its.toList
def SqT (K : PySem.W.Frag) (H : Hp) (a : Addr) (xs : List V) : Prop :=
  Rd H a (.tup xs) ∨
    ∃ (o : Obj) (its : Array Value) (n : Nat), K.lookup a = some o ∧ o.cls = .type "tuple" ∧ o.data = .seq its n ∧ its.size ≤ sizeLine ∧ Vals xs its.toList
def absV : Value → Option V
  | .none => some .non
  | .bool b => some (.bl b)
  | .int i _ => some (.int i)
  | .str x _ => some (.str x)
  | .bytes b _ => some (.byt b)
  | .float b _ => some (.flt b)
  | .ref a => some (.ref a)
  | .type n => some (.ty n)
  | _ => none
theorem RelV.abs {x : V} {u : Value} (r : RelV x u) : absV u = some x := by
  cases x with
  | non => cases r; rfl
  | bl _ => cases r; rfl
  | int _ => obtain ⟨t, rfl⟩ := r; rfl
  | str _ => obtain ⟨t, rfl⟩ := r; rfl
  | byt _ => obtain ⟨t, rfl⟩ := r; rfl
  | flt _ => obtain ⟨t, rfl⟩ := r; rfl
  | ref _ => cases r; rfl
  | ty _ => cases r; rfl
theorem RelV.inj {x y : V} {u : Value} (r : RelV x u) (q : RelV y u) : x = y := Option.some.inj (r.abs.symm.trans q.abs)
theorem Vals.inj : ∀ {xs ys : List V} {us : List Value}, Vals xs us → Vals ys us → xs = ys
  | _, _, _, .nil, .nil => rfl
  | _, _, _, .cons r t, .cons r' t' => by rw [r.inj r', Vals.inj t t']
section
variable {X : Cx} {pins : List (Addr × Obj)} {σ : St} {H : Hp} {s : Shared} {a : Addr} {xs ys : List V}
theorem SqL.of {K : PySem.W.Frag} (h : H a = some (.lst xs)) : SqL K H a xs := .inl (.inl h)
theorem SqT.of {K : PySem.W.Frag} (h : H a = some (.tup xs)) : SqT K H a xs := .inl (.inl h)
theorem Inv.list (I : Inv X pins σ H s) (h : SqL X.K H a xs) : ∃ its : List Value, Vals xs its ∧ PlainL s.heap a its.toArray ∧ xs.length ≤ sizeLine := by
  rcases h with h | ⟨o, its, n, hk, hc, hd, hs, hz, r⟩
  · obtain ⟨z, its, n, r, e⟩ := h.ok I.hok
    exact ⟨its, r, ⟨_, n, e, rfl, rfl, rfl⟩, z⟩
  · refine ⟨its.toList, r, ⟨o, n, I.kIn a o hk, hc, hd, by simpa using hs⟩, ?_⟩
    have e := r.length
    simp only [Array.length_toList] at e
    omega
theorem Inv.tuple (I : Inv X pins σ H s) (h : SqT X.K H a xs) : ∃ its : List Value, Vals xs its ∧ IsTup s.heap a its.toArray ∧ xs.length ≤ sizeLine := by
  rcases h with h | ⟨o, its, n, hk, hc, hs, hz, r⟩
  · obtain ⟨z, its, r, p⟩ := h.ok I.hok
    exact ⟨its, r, p, z⟩
  · refine ⟨its.toList, r, ⟨o, I.kIn a o hk, hc, n, by simpa using hs⟩, ?_⟩
    have e := r.length
    simp only [Array.length_toList] at e
    omega
theorem Inv.list_inj (I : Inv X pins σ H s) (h : SqL X.K H a xs) (h' : SqL X.K H a ys) : xs = ys := by
  obtain ⟨its, r, ⟨o, n, e, _, _, d⟩, _⟩ := I.list h
  obtain ⟨its', r', ⟨o', n', e', _, _, d'⟩, _⟩ := I.list h'
  rw [e] at e'; cases e'
  rw [d] at d'
  injection d' with d1 _
  have : its = its' := by simpa using congrArg Array.toList d1
  subst this
  exact r.inj r'
theorem Inv.tuple_inj (I : Inv X pins σ H s) (h : SqT X.K H a xs) (h' : SqT X.K H a ys) : xs = ys := by
  obtain ⟨its, r, ⟨o, e, _, n, d⟩, _⟩ := I.tuple h
  obtain ⟨its', r', ⟨o', e', _, n', d'⟩, _⟩ := I.tuple h'
  rw [e] at e'; cases e'
  rw [d] at d'
  injection d' with d1 _
  have : its = its' := by simpa using congrArg Array.toList d1
  subst this
  exact r.inj r'
end

/-! ### another wish about exceptions -/
abbrev Cx.wish (X : Cx) (E : Value → Shared → Prop) : Cx := { X with xe := E }
/-- no exception leaves -/
abbrev Cx.nox (X : Cx) : Cx := X.wish fun _ _ => False
theorem Cx.Ok.wish {X : Cx} (ok : X.Ok) (E : Value → Shared → Prop) : (X.wish E).Ok :=
  ⟨ok.mod, ok.kind, ok.glob, ok.blt, ok.above, ok.inj, ok.has, ok.cab, ok.hd, ok.frames, ok.stk, ok.exf, ok.bs, ok.bsz, ok.noex, ok.exfs, ok.funs, ok.frf⟩
theorem Cx.Ok.unwish {X : Cx} {E : Value → Shared → Prop} (ok : (X.wish E).Ok) : X.Ok :=
  ⟨ok.mod, ok.kind, ok.glob, ok.blt, ok.above, ok.inj, ok.has, ok.cab, ok.hd, ok.frames, ok.stk, ok.exf, ok.bs, ok.bsz, ok.noex, ok.exfs, ok.funs, ok.frf⟩
section
variable {X : Cx} {pins : List (Addr × Obj)} {σ : St} {H : Hp} {s : Shared} {E : Value → Shared → Prop}
theorem Inv.wish (I : Inv X pins σ H s) (E : Value → Shared → Prop) : Inv (X.wish E) pins σ H s := ⟨I.ok.wish E, I.os, I.bare, I.base, I.loc, I.cell, I.free, I.freeC, I.pin, I.hok, I.len⟩
theorem Inv.unwish (I : Inv (X.wish E) pins σ H s) : Inv X pins σ H s := ⟨I.ok.unwish, I.os, I.bare, I.base, I.loc, I.cell, I.free, I.freeC, I.pin, I.hok, I.len⟩
theorem SP.unwish {D : Ends} {f : Flow} {s' : Shared} (h : SP (X.wish E) pins D f s') : SP X pins D f s' := by
  cases f with
  | next => obtain ⟨σ', H', I, q⟩ := h; exact ⟨σ', H', I.unwish, q⟩
  | brk => obtain ⟨σ', H', I, q⟩ := h; exact ⟨σ', H', I.unwish, q⟩
  | cont => obtain ⟨σ', H', I, q⟩ := h; exact ⟨σ', H', I.unwish, q⟩
  | ret u => obtain ⟨v, σ', H', I, r, q⟩ := h; exact ⟨v, σ', H', I.unwish, r, q⟩
theorem PE.nox {e : Expr} {t : TE} (h : PE X.nox e t) : PE X e t := fun pins s σ H Q I hw =>
  wpAny_mono (h pins s σ H Q (I.wish _) hw) (fun _ _ ⟨v, H', I', r, q⟩ => ⟨v, H', I'.unwish, r, q⟩) fun _ _ z => False.elim z
theorem PT.nox {e : Expr} {t : TT} (h : PT X.nox e t) : PT X e t := fun pins s σ H Q I hw =>
  wpAny_mono (h pins s σ H Q (I.wish _) hw) (fun _ _ ⟨H', I', q⟩ => ⟨H', I'.unwish, q⟩) fun _ _ z => False.elim z
theorem PSs.nox {st : List Stmt} {t : TS} (h : PSs X.nox st t) : PSs X st t := fun pins s σ H D I hw =>
  wpAny_mono (h pins s σ H D (I.wish _) hw) (fun _ _ q => q.unwish) fun _ _ z => False.elim z
end

/-! ### blocks and small statements -/
section
variable {X : Cx} {st : Stmt} {rest : List Stmt} {t u : TS} {e : Expr} {te : TE} {pos : Pos}
def tNext : TS := fun D σ H => D.nx σ H
def tSeq (t u : TS) : TS := fun D σ H => t { D with nx := u D } σ H
theorem pss_nil : PSs X [] tNext := fun _ _ σ H _ I h => wpAny_execs_nil ⟨σ, H, I, h⟩
theorem pss_cons (h1 : PS X st t) (h2 : PSs X rest u) : PSs X (st :: rest) (tSeq t u) := by
  intro pins s σ H D I h
  refine wpAny_execs_cons (thn (h1 pins s σ H { D with nx := u D } I h) fun f s1 q => ?_)
  cases f with
  | next =>
    obtain ⟨σ', H', I', q⟩ := q
    exact h2 pins s1 σ' H' D I' q
  | ret v => exact q
  | brk => exact q
  | cont => exact q
theorem pss_one (h1 : PS X st t) : PSs X [st] t := by
  intro pins s σ H D I h
  refine wpAny_execs_cons (thn (h1 pins s σ H D I h) fun f s1 q => ?_)
  cases f with
  | next => exact wpAny_execs_nil q
  | ret v => exact q
  | brk => exact q
  | cont => exact q
def tBreak : TS := fun D σ H => D.bk σ H
def tCont : TS := fun D σ H => D.ct σ H
theorem ps_pass : PS X (.Pass pos) tNext := fun _ _ σ H _ I h => wpAny_Pass ⟨σ, H, I, h⟩
theorem ps_break : PS X (.Break pos) tBreak := fun _ _ σ H _ I h => wpAny_Break ⟨σ, H, I, h⟩
theorem ps_continue : PS X (.Continue pos) tCont := fun _ _ σ H _ I h => wpAny_Continue ⟨σ, H, I, h⟩
/-- in a def's body nothing is shown -/
theorem Inv.quiet {pins : List (Addr × Obj)} {σ : St} {H : Hp} {s : Shared} (I : Inv X pins σ H s) : interactive X.env = false := by simp [interactive, I.ok.kind]
/-- a docstring -/
theorem ps_doc {x j pos pos'} : PS X (.Expr (.Constant (.str x) j pos) pos') tNext := fun _ s σ H _ I h => wpAny_Expr (Calls.Constant_str (show SP X _ _ .next { s with toks := s.toks + 1 } from ⟨σ, H, I.tok _, h⟩)) I.quiet
/-- an expression whose value is dropped -/
def tDrop (te : TE) : TS := fun D σ H => te σ H fun _ H1 => D.nx σ H1
theorem ps_expr (he : PE X e te) (hs : swapsWith e none pos.line X.env = pure false := by rfl) : PS X (.Expr e pos) (tDrop te) := by
  intro pins s σ H D I h
  exact wpAny_Expr_any (thn (he pins s σ H _ I h) fun v s1 ⟨x, H1, I1, r1, q1⟩ => ⟨σ, H1, I1, q1⟩) I.quiet hs
def tRet (te : TE) : TS := fun D σ H => te σ H D.rt
theorem ps_ret (he : PE X e te) : PS X (.Return (some e) pos) (tRet te) := by
  intro pins s σ H D I h
  exact wpAny_Return_some (thn (he pins s σ H _ I h) fun v s1 ⟨x, H1, I1, r1, q1⟩ => ⟨x, σ, H1, I1, r1, q1⟩)
def tRetN : TS := fun D _ H => D.rt .non H
theorem ps_retN : PS X (.Return none pos) tRetN := fun _ _ σ H _ I h => wpAny_Return_none ⟨.non, σ, H, I, rfl, h⟩
def tIfS (c : TT) (t u : TS) : TS := fun D σ H => c σ H fun b H1 => if b = true then t D σ H1 else u D σ H1
theorem ps_if {c : Expr} {a b : List Stmt} {tc : TT} (hc : PT X c tc) (ha : PSs X a t) (hb : PSs X b u) : PS X (.If c a b pos) (tIfS tc t u) := by
  intro pins s σ H D I h
  refine wpAny_If (thn (hc pins s σ H _ I h) fun d s1 ⟨H1, I1, q1⟩ => ?_)
  cases d with
  | true => exact ha pins s1 σ H1 D I1 q1
  | false => exact hb pins s1 σ H1 D I1 q1
/-- code that the proof never comes to -/
def tNever : TS := fun _ _ _ => False
theorem ps_never : PS X st tNever := fun _ _ _ _ _ _ h => h.elim
theorem pss_never {sts : List Stmt} : PSs X sts tNever := fun _ _ _ _ _ _ h => h.elim
end

/-! ### targets -/
abbrev TG := V → St → Hp → (St → Hp → Prop) → Prop
abbrev TGs := List V → St → Hp → (St → Hp → Prop) → Prop
def PG (X : Cx) (target : Expr) (t : TG) : Prop :=
  ∀ (pins : List (Addr × Obj)) (s : Shared) (σ : St) (H : Hp) (v : V) (u : Value) (Q : St → Hp → Prop), Inv X pins σ H s → RelV v u → t v σ H Q →
    wpAny (model X.prog X.w) X.A (assign target X.env u) (fun _ s' => ∃ σ' H', Inv X pins σ' H' s' ∧ Q σ' H') X.xe s
/-- several targets, one after another -/
def PGs (X : Cx) (ts : List Expr) (t : TGs) : Prop :=
  ∀ (pins : List (Addr × Obj)) (s : Shared) (σ : St) (H : Hp) (vs : List V) (us : List Value) (Q : St → Hp → Prop), Inv X pins σ H s → Vals vs us → t vs σ H Q →
    wpAny (model X.prog X.w) X.A (assignInOrder ((assignEach ts X.env).map (·.2)) us) (fun _ s' => ∃ σ' H', Inv X pins σ' H' s' ∧ Q σ' H') X.xe s
/-- o[i] = v, by values -/
abbrev TSet := V → V → V → Hp → (Hp → Prop) → Prop
def PSet (X : Cx) (t : TSet) : Prop :=
  ∀ (pins : List (Addr × Obj)) (s : Shared) (σ : St) (H : Hp) (o i v : V) (ov iv u : Value) (Q : Hp → Prop), Inv X pins σ H s → RelV o ov → RelV i iv → RelV v u → t o i v H Q →
    wpAny (model X.prog X.w) X.A (setItem ov iv u) (fun _ s' => ∃ H', Inv X pins σ H' s' ∧ Q H') X.xe s
/-- a op= b, by values -/
abbrev TIp := V → V → Hp → VK → Prop
def PIp (X : Cx) (op : Operator) (t : TIp) : Prop :=
  ∀ (pins : List (Addr × Obj)) (s : Shared) (σ : St) (H : Hp) (x y : V) (v u : Value) (Q : VK), Inv X pins σ H s → RelV x v → RelV y u → t x y H Q →
    wpAny (model X.prog X.w) X.A (inplaceOp op v u) (EP X pins σ Q) X.xe s
section
variable {X : Cx} {pos : Pos}
def gName (i : Nat) : TG := fun v σ H Q => Q (σ.set i (some v)) H
theorem pg_name {i : Nat} {x : Str} (hN : X.N.Nodup) (hi : X.N[i]? = some x) (hx : Loc X.env.scope x) (hf : X.fn x = true ∨ X.env.scope.names.lookup x = some .local := by first | exact .inl rfl | exact .inr rfl | assumption) : PG X (.Name x pos) (gName i) := by
  intro pins s σ H v u Q I r h
  exact wpAny_assign_Name (store_ok I hN hi hx r (fun s' I' => ⟨_, H, I', h⟩) hf)
def gNil : TGs := fun vs σ H Q => vs = [] ∧ Q σ H
def gCons (t : TG) (u : TGs) : TGs := fun vs σ H Q => ∃ v r, vs = v :: r ∧ t v σ H fun σ' H' => u r σ' H' Q
theorem pgs_nil : PGs X [] gNil := by
  intro pins s σ H vs us Q I r h
  obtain ⟨e, h⟩ := h
  subst e
  cases r
  exact assignInOrder_nil ⟨σ, H, I, h⟩
theorem pgs_cons {e : Expr} {es : List Expr} {t : TG} {u : TGs} (h1 : PG X e t) (h2 : PGs X es u)
    (hs : (assignEach (e :: es) X.env).map (·.2) = assign e X.env :: (assignEach es X.env).map (·.2) := by rfl) : PGs X (e :: es) (gCons t u) := by
  intro pins s σ H vs us Q I r h
  obtain ⟨v, vr, e1, h⟩ := h
  subst e1
  cases r with
  | cons r rr =>
    rw [hs]
    refine assignInOrder_cons (thn (h1 pins s σ H _ _ _ I r h) fun _ s1 ⟨σ1, H1, I1, q1⟩ => ?_)
    exact h2 pins s1 σ1 H1 _ _ Q I1 rr q1
/-- (a, b, ..) = a tuple of that length -/
def gTup (K : PySem.W.Frag) (n : Nat) (t : TGs) : TG := fun v σ H Q => ∃ a xs, v = .ref a ∧ SqT K H a xs ∧ xs.length = n ∧ t xs σ H Q
theorem pg_tup {es : List Expr} {k : Nat} {t : TGs} {n : Nat} (hc : X.calm = true) (h : PGs X es t)
    (hn : (assignEach es X.env).length = n := by rfl) (hst : (assignEach es X.env).findIdx? (·.1) = none := by rfl) : PG X (.Tuple es k pos) (gTup X.K n t) := by
  intro pins s σ H v u Q I r hw
  obtain ⟨a, xs, e1, hq, hl, hw⟩ := hw
  subst e1
  cases r
  obtain ⟨its, rv, ht, hz⟩ := I.tuple hq
  refine assign_Tuple_tuple (I.ok.hd hc) ht (by simp [hn, ← hl, rv.length]) hst fun h' hx => ?_
  have I1 : Inv X pins σ H { s with heap := h' } := I.kept (t' := s.toks) fun b o e => hx b o (Nat.ne_of_lt (Heap.lt_size e)) e
  exact h pins _ σ H xs _ Q I1 (by simpa using rv) hw
/-- o[i] = .. -/
def gSub (to ti : TE) (t : TSet) : TG := fun v σ H Q => to σ H fun o H1 => ti σ H1 fun i H2 => t o i v H2 fun H3 => Q σ H3
theorem pg_sub {o i : Expr} {to ti : TE} {t : TSet} (ho : PE X o to) (hi : PE X i ti) (hs : PSet X t)
    (ha : ∀ v, assign (.Subscript o i pos) X.env v = (do
      let ov ← holding [v] (eval o X.env)
      let iv ← holding [v, ov] (eval i X.env)
      standAt pos
      holding [v, ov, iv] (setItem ov iv v)
      release [v, ov, iv] []) := by intro _; rfl) : PG X (.Subscript o i pos) (gSub to ti t) := by
  intro pins s σ H v u Q I r h
  rw [ha]
  refine wpAny_bind (wpAny_holding (thn (ho pins s σ H _ I h) fun ov s1 ⟨x, H1, I1, r1, q1⟩ => ?_))
  refine wpAny_bind (wpAny_holding (thn (hi pins s1 σ H1 _ I1 q1) fun iv s2 ⟨y, H2, I2, r2, q2⟩ => ?_))
  refine wpAny_bind (wpAny_standAt (wpAny_bind (wpAny_holding (thn (hs pins s2 σ H2 x y v ov iv u _ I2 r1 r2 r q2) fun _ s3 ⟨H3, I3, q3⟩ => ?_))))
  exact wpAny_release ⟨σ, H3, I3, q3⟩
/-- target = value -/
def tAsg (te : TE) (g : TG) : TS := fun D σ H => te σ H fun x H1 => g x σ H1 D.nx
theorem ps_asg {tg e : Expr} {te : TE} {g : TG} (he : PE X e te) (hg : PG X tg g) (hs : swapsWithSole [tg] e pos.line X.env = pure false := by rfl) (hw : swappedStores [tg] e X.env = pure none := by rfl)
    (h1 : (assignEach [tg] X.env).map (·.2) = [assign tg X.env] := by rfl) : PS X (.Assign [tg] e pos) (tAsg te g) := by
  intro pins s σ H D I h
  refine wpAny_Assign_stores (thn (he pins s σ H _ I h) fun v s1 ⟨x, H1, I1, r1, q1⟩ => ?_) hs hw
  rw [h1]
  exact thn (hg pins s1 σ H1 x v _ I1 r1 q1) fun _ s2 q => q
/-- name = value -/
theorem ps_set {i : Nat} {x : Str} {e : Expr} {te : TE} {pos' : Pos} (hN : X.N.Nodup) (hi : X.N[i]? = some x) (hx : Loc X.env.scope x) (he : PE X e te) (hs : swapsWith e (some (.Name x pos')) pos.line X.env = pure false := by rfl) (hf : X.fn x = true ∨ X.env.scope.names.lookup x = some .local := by first | exact .inl rfl | exact .inr rfl | assumption) :
    PS X (.Assign [.Name x pos'] e pos) (tAsg te (gName i)) := by
  intro pins s σ H D I h
  refine wpAny_Assign_Name (thn (he pins s σ H _ I h) fun v s1 ⟨y, H1, I1, r1, q1⟩ => ?_) hs
  exact store_ok I1 hN hi hx r1 (fun s2 I2 => ⟨_, H1, I2, q1⟩) hf
/-- a, b = x, y with plain local names: stored from the right; the pair itself is not tracked (the opening rows as in PyProof/Rows/TupAssign.lean:23) -/
def tPar (i j : Nat) (ta : TA) : TS := fun D σ H => ta σ H fun vs H1 => ∃ v w, vs = [v, w] ∧ D.nx ((σ.set i (some v)).set j (some w)) H1
theorem ps_par {i j : Nat} {x y : Str} {a b : Expr} {ta : TA} {px py pt : Pos} {kt k2 pt2} (hc : X.calm = true) (hN : X.N.Nodup) (hi : X.N[i]? = some x) (hj : X.N[j]? = some y) (hij : i ≠ j)
    (hx : X.env.scope.names.lookup x = some .local) (hy : X.env.scope.names.lookup y = some .local) (ha : PA X [a, b] ta)
    (hw : swappedStores [.Tuple [.Name x px, .Name y py] kt pt] (.Tuple [a, b] k2 pt2) X.env = pure (some [x, y]))
    (hs : swapsWithSole [.Tuple [.Name x px, .Name y py] kt pt] (.Tuple [a, b] k2 pt2) pos.line X.env = pure false := by rfl) :
    PS X (.Assign [.Tuple [.Name x px, .Name y py] kt pt] (.Tuple [a, b] k2 pt2) pos) (tPar i j ta) := by
  intro pins s σ H D I h
  rw [exec_Assign_arm]
  refine wpAny_bind (wpAny_standAt ?_)
  rw [hs]
  refine wpAny_bind (wpAny_pure ?_)
  rw [if_neg (by decide)]
  refine wpAny_bind (Tuple_ (thn (ha _ pins s σ H _ I h) fun us s1 ⟨vs, H1, I1, r1, q1⟩ => ?_))
  obtain ⟨v, w, e1, q1⟩ := q1
  subst e1
  obtain ⟨u1, u2, rfl, rv, rw'⟩ : ∃ u1 u2, us = [u1, u2] ∧ RelV v u1 ∧ RelV w u2 := by
    cases r1 with
    | cons p q =>
      cases q with
      | cons p' q' =>
        cases q'
        exact ⟨_, _, rfl, p, p'⟩
  refine wpAny_newObj_type ?_ (by show 2 ≤ sizeLine; decide)
  have I2 : Inv X pins σ H1 { s1 with heap := s1.heap.push { cls := .type "tuple", data := .seq [u1, u2].toArray } } := I1.kept (t' := s1.toks) fun b o e => Heap.get?_push_of_some _ e
  rw [hw]
  refine wpAny_bind (wpAny_pure ?_)
  show wpAny (model X.prog X.w) X.A (do rule "assign.swapped-stores"; let items ← unpackItems (.ref s1.heap.objs.size) 2 none; assignInOrder [fun v => bindName X.env y v, fun v => bindName X.env x v] items.reverse; pure Flow.next) _ _ _
  refine wpAny_bind (wpAny_rule (wpAny_bind (unpackItems_tuple (items := #[u1, u2]) (I.ok.hd hc) (IsTup.new s1.heap _) fun h' hx' => ?_)))
  have I3 := I2.kept (h' := h') (t' := s1.toks) fun b o e => hx' b o (Nat.ne_of_lt (Heap.lt_size e)) e
  show wpAny _ _ (assignInOrder [fun v => bindName X.env y v, fun v => bindName X.env x v] [u2, u1] >>= fun _ => pure Flow.next) _ _ _
  refine wpAny_bind (assignInOrder_cons (wpAny_bindName (store_ok I3 hN hj (.inl hy) rw' (fun s2 I4 => ?_) (.inr hy))))
  refine assignInOrder_cons (wpAny_bindName (store_ok I4 hN hi (.inl hx) rv (fun s3 I5 => assignInOrder_nil (wpAny_pure ?_)) (.inr hx)))
  rw [List.set_comm _ _ (Ne.symm hij)] at I5
  exact ⟨_, H1, I5, q1⟩
/-- name op= e -/
def tAug (i : Nat) (te : TE) (ti : TIp) : TS := fun D σ H => ∃ x, σ[i]? = some (some x) ∧ te σ H fun y H1 => ti x y H1 fun z H2 => D.nx (σ.set i (some z)) H2
theorem ps_aug {i : Nat} {x : Str} {e : Expr} {te : TE} {op : Operator} {ti : TIp} {pos' : Pos} (hN : X.N.Nodup) (hi : X.N[i]? = some x) (hx : Loc X.env.scope x) (he : PE X e te) (ho : PIp X op ti) (hf : X.fn x = true ∨ X.env.scope.names.lookup x = some .local := by first | exact .inl rfl | exact .inr rfl | assumption) :
    PS X (.AugAssign (.Name x pos') op e pos) (tAug i te ti) := by
  intro pins s σ H D I h
  obtain ⟨v, e1, h⟩ := h
  obtain ⟨m, hn, hl⟩ := I.loc
  have vis : Vis X.env.scope x := by rcases hx with k | k; exact .inl k; exact .inr (.inl k)
  obtain ⟨u, r, l⟩ := hl i x v hi e1 vis
  refine wpAny_AugAssign_Name ?_
  have go : wpAny (model X.prog X.w) X.A (eval e X.env) (fun w s₂ => wpAny (model X.prog X.w) X.A (inplaceOp op u w) (fun r s₃ => wpAny (model X.prog X.w) X.A (storeName X.env x r) (fun _ => SP X pins D .next) X.xe s₃) X.xe s₂) X.xe s := by
    refine thn (he pins s σ H _ I h) fun w s1 ⟨y, H1, I1, r1, q1⟩ => ?_
    refine thn (ho pins s1 σ H1 v y u w _ I1 r r1 q1) fun z s2 ⟨zv, H2, I2, r2, q2⟩ => ?_
    exact store_ok I2 hN hi hx r2 (fun s3 I3 => ⟨_, H2, I3, q2⟩) hf
  rcases l with ⟨hk, hm⟩ | ⟨hk, c, hc, hcell⟩
  · exact wpAny_loadName_local I.ok.kind hk hn hm go
  · rcases hk with hk | hk
    · exact wpAny_loadName_cell I.ok.kind hk hc hcell go
    · rcases hx with k | k
      · have : X.env.scope.names.lookup x = some .free := hk
        rw [k] at this; cases this
      · have : X.env.scope.names.lookup x = some .free := hk
        rw [k] at this; cases this
/-- o[i] op= e -/
def tAugS (to ti te : TE) (tget : V → V → Hp → VK → Prop) (tip : TIp) (tset : TSet) : TS := fun D σ H => to σ H fun o H1 => ti σ H1 fun i H2 => tget o i H2 fun x H3 => te σ H3 fun y H4 => tip x y H4 fun z H5 => tset o i z H5 fun H6 => D.nx σ H6
/-- o[i], by values -/
def PGet (X : Cx) (t : V → V → Hp → VK → Prop) : Prop :=
  ∀ (pins : List (Addr × Obj)) (s : Shared) (σ : St) (H : Hp) (o i : V) (ov iv : Value) (Q : VK), Inv X pins σ H s → RelV o ov → RelV i iv → t o i H Q →
    wpAny (model X.prog X.w) X.A (getItem ov iv) (EP X pins σ Q) X.xe s
theorem ps_augS {o i e : Expr} {to ti te : TE} {tget : V → V → Hp → VK → Prop} {tip : TIp} {tset : TSet} {op : Operator} {tpos : Pos} (ho : PE X o to) (hi : PE X i ti) (hg : PGet X tget) (he : PE X e te) (hp : PIp X op tip) (hs : PSet X tset)
    (ha : ∀ ov iv new, augStore i ov iv new = (do holding [new, ov, iv] (setItem ov iv new); release [new, ov, iv] []; pure .next) := by intros; rfl) : PS X (.AugAssign (.Subscript o i tpos) op e pos) (tAugS to ti te tget tip tset) := by
  intro pins s σ H D I h
  refine wpAny_AugAssign_SubscriptAny (thn (ho pins s σ H _ I h) fun ov s1 ⟨x1, H1, I1, r1, q1⟩ => ?_) ha
  refine thn (hi pins s1 σ H1 _ I1 q1) fun iv s2 ⟨x2, H2, I2, r2, q2⟩ => ?_
  refine thn (hg pins s2 σ H2 x1 x2 ov iv _ I2 r1 r2 q2) fun old s3 ⟨x3, H3, I3, r3, q3⟩ => ?_
  refine thn (he pins s3 σ H3 _ I3 q3) fun v s4 ⟨x4, H4, I4, r4, q4⟩ => ?_
  refine thn (hp pins s4 σ H4 x3 x4 old v _ I4 r3 r4 q4) fun new s5 ⟨x5, H5, I5, r5, q5⟩ => ?_
  exact thn (hs pins s5 σ H5 x1 x2 x5 ov iv new _ I5 r1 r2 r5 q5) fun _ s6 ⟨H6, I6, q6⟩ => ⟨σ, H6, I6, q6⟩
/-- ints -/
def ipI (f : Int → Int → Int) : TIp := fun x y H Q => ∃ i j, x = .int i ∧ y = .int j ∧ Q (.int (f i j)) H
theorem ip_add : PIp X .Add (ipI fun i j => i + j) := by
  intro pins s σ H x y v u Q I r1 r2 h
  obtain ⟨i, j, e1, e2, q⟩ := h
  subst e1; subst e2
  obtain ⟨t, rfl⟩ := r1
  obtain ⟨t', rfl⟩ := r2
  exact iadd_int ⟨.int _, H, I.tok _, ⟨_, rfl⟩, q⟩
theorem ip_sub : PIp X .Sub (ipI fun i j => i - j) := by
  intro pins s σ H x y v u Q I r1 r2 h
  obtain ⟨i, j, e1, e2, q⟩ := h
  subst e1; subst e2
  obtain ⟨t, rfl⟩ := r1
  obtain ⟨t', rfl⟩ := r2
  exact isub_int ⟨.int _, H, I.tok _, ⟨_, rfl⟩, q⟩
end

/-! ### while -/
section
variable {X : Cx} {pos : Pos}
/-- the invariant W with its measure -/
def tWhile (c : TT) (tb : TS) : TS := fun D σ H => ∃ W : Nat → St → Hp → Prop, (∃ m, W m σ H) ∧ ∀ m σ H, W m σ H →
  c σ H fun b H1 => if b = true then ∃ N : St → Hp → Prop, (∀ σ' H', N σ' H' → ∃ m', m' < m ∧ W m' σ' H') ∧ tb { D with nx := N, ct := N, bk := D.nx } σ H1 else D.nx σ H1
theorem ps_while {c : Expr} {body : List Stmt} {tc : TT} {tb : TS} (hp : PassesOwn (model X.prog X.w) X.A X.env X.xe) (hc : PT X c tc) (hb : PSs X body tb) : PS X (.While c body [] pos) (tWhile tc tb) := by
  intro pins s σ H D I h
  obtain ⟨W, ⟨m0, w0⟩, turn⟩ := h
  refine wpAny_While (codeAny_whileLoop (fun n s' => ∃ σ' H', Inv X pins σ' H' s' ∧ W n σ' H') ?_ m0 ⟨σ, H, I, w0⟩)
  rintro n s1 ⟨σ1, H1, I1, w1⟩
  refine wpAny_passesOwn hp (thn (hc pins s1 σ1 H1 _ I1 (turn n σ1 H1 w1)) fun b s2 ⟨H2, I2, q2⟩ => ?_)
  cases b with
  | true =>
    obtain ⟨N, hN, q2⟩ := q2
    rw [if_pos rfl]
    refine wpAny_passesOwn hp (thn (hb pins s2 σ1 H2 _ I2 q2) fun f s3 q3 => ?_)
    cases f with
    | next =>
      obtain ⟨σ3, H3, I3, n3⟩ := q3
      obtain ⟨m', hm, w3⟩ := hN σ3 H3 n3
      exact ⟨m', hm, σ3, H3, I3, w3⟩
    | cont =>
      obtain ⟨σ3, H3, I3, n3⟩ := q3
      obtain ⟨m', hm, w3⟩ := hN σ3 H3 n3
      exact ⟨m', hm, σ3, H3, I3, w3⟩
    | brk => exact q3
    | ret v => exact q3
  | false =>
    rw [if_neg Bool.false_ne_true]
    exact wpAny_execs_nil ⟨σ1, H2, I2, q2⟩
end

/-! ### what a loop or a comprehension walks -/
/-- at turn i: it yields x (the heap may grow), or it stops -/
structure It where
  go : Nat → Hp → Prop
  yld : Nat → Hp → V → Hp → Prop
  stop : Nat → Hp → Prop
/-- the iterator's own objects may turn: they are not the frame's, not pinned, younger than the entry (or a comprehension's own) -/
def FpOk (X : Cx) (pins : List (Addr × Obj)) (H : Hp) (b : Addr) : Prop :=
  H b = none ∧ b ≠ X.env.locals ∧ b ∉ X.fs ∧ (b ∈ X.ex ∨ X.s₀.heap.objs.size ≤ b) ∧ (∀ x c, X.env.cells.lookup x = some c → c ≠ b) ∧ ∀ p ∈ X.pn ++ pins, p.1 ≠ b
theorem Inv.fpOk {X : Cx} {pins : List (Addr × Obj)} {σ : St} {H H' : Hp} {s : Shared} {b : Addr} (I : Inv X pins σ H s) (hb : s.heap.objs.size ≤ b) (hn : H' b = none) : FpOk X pins H' b := by
  refine ⟨hn, Nat.ne_of_gt (Nat.lt_of_lt_of_le I.lt hb), I.nofs hb, .inr (Nat.le_trans I.sz hb), fun x c e z => ?_, fun p hp z => ?_⟩
  · obtain ⟨v, q⟩ := I.cell x c e
    exact absurd (Nat.lt_of_lt_of_le q.lt (by rw [z]; exact hb)) (Nat.lt_irrefl _)
  · exact absurd (Nat.lt_of_lt_of_le (Heap.lt_size (I.pin p hp).1) (by rw [z]; exact hb)) (Nat.lt_irrefl _)
structure Turn (P : Program) (w : World) (K : PySem.W.Frag) (tg : Expr) (J : It) (fp : List Addr) (it : Addr) (tn : Nat → Heap → Prop) : Prop where
  mem : it ∈ fp
  obj : ∀ i h, tn i h → ∀ b ∈ fp, ∃ o, h.get? b = some o ∧ ∀ v, o.data ≠ .cell v
  keep : ∀ i h h', tn i h → (∀ b ∈ fp, ∀ o, h.get? b = some o → h'.get? b = some o) → tn i h'
  item : ∀ (X : Cx), X.prog = P → X.w = w → X.K = K → X.calm = true → ∀ (i : Nat) (pins : List (Addr × Obj)) (s : Shared) (σ : St) (H : Hp) (E : Value → Shared → Prop), Inv X pins σ H s → (∀ b ∈ fp, FpOk X pins H b) → tn i s.heap → J.go i H →
    wpAny (model P w) X.A (pyNext (.ref it)) (fun r s1 => ∃ u, r = some u ∧
      wpAny (model P w) X.A (letOwnedTupleGo tg (.ref it) u) (fun _ s2 => ∃ x H', Inv X pins σ H' s2 ∧ RelV x u ∧ J.yld i H x H' ∧ tn (i + 1) s2.heap ∧ ∀ b ∈ fp, H' b = none) E s1) E s
  done : ∀ (X : Cx), X.prog = P → X.w = w → X.K = K → X.calm = true → ∀ (i : Nat) (pins : List (Addr × Obj)) (s : Shared) (σ : St) (H : Hp) (E : Value → Shared → Prop), Inv X pins σ H s → (∀ b ∈ fp, FpOk X pins H b) → tn i s.heap → J.stop i H →
    wpAny (model P w) X.A (pyNext (.ref it)) (fun r s1 => r = none ∧ Inv X pins σ H s1) E s
  self : ∀ (A : Around) (i : Nat) (s : Shared) (Q : Value → Shared → Prop) (E : Value → Shared → Prop), tn i s.heap → Q (.ref it) s → wpAny (model P w) A (pyIter (.ref it)) Q E s
abbrev TI := St → Hp → (It → Hp → Prop) → Prop
/-- an iterator has come -/
def PIE (X : Cx) (pins : List (Addr × Obj)) (σ : St) (tg : Expr) (R : It → Hp → Prop) (itv : Value) (s2 : Shared) : Prop :=
  ∃ (it : Addr) (fp : List Addr) (tn : Nat → Heap → Prop) (J : It) (H' : Hp), itv = .ref it ∧ Inv X pins σ H' s2 ∧ Turn X.prog X.w X.K tg J fp it tn ∧ tn 0 s2.heap ∧ (∀ b ∈ fp, FpOk X pins H' b) ∧ R J H'
def PI (X : Cx) (tg iter : Expr) (wi : TI) : Prop :=
  ∀ (pins : List (Addr × Obj)) (s : Shared) (σ : St) (H : Hp) (R : It → Hp → Prop), Inv X pins σ H s → wi σ H R →
    wpAny (model X.prog X.w) X.A (eval iter X.env) (fun v s1 => wpAny (model X.prog X.w) X.A (pyIter v) (PIE X pins σ tg R) X.xe s1) X.xe s

/-- the step ahead of the store is nothing for an iterator that keeps no tuple -/
theorem go_of {M : Model} {A : Around} {E : Value → Shared → Prop} {s : Shared} {tg : Expr} {it : Addr} {u : Value} {o : Obj} {n : String} {vs : Array Value} {Q : Unit → Shared → Prop} (ho : s.heap.get? it = some o) (hc : o.cls = .type n) (hd : o.data = .fields vs)
    (hn : ["enumerate", "zip", "dict_itemiterator", "dict_reverseitemiterator", "odict_iterator", "itertools.zip_longest", "itertools.pairwise"].contains n = false) (hQ : Q () s) : wpAny M A (letOwnedTupleGo tg (.ref it) u) Q E s := by
  unfold letOwnedTupleGo
  cases tg <;> first
    | exact wpAny_pure hQ
    | (cases u <;> first
        | exact wpAny_pure hQ
        | (refine wpAny_bind (wpAny_load ho ?_)
           rw [hc, hd]
           show wpAny M A (if (["enumerate", "zip", "dict_itemiterator", "dict_reverseitemiterator", "odict_iterator", "itertools.zip_longest", "itertools.pairwise"].contains n && vs[0]? == some (rawInt _)) = true then _ else _) Q E s
           rw [if_neg (by intro h; rw [hn, Bool.false_and] at h; cases h)]
           exact wpAny_pure hQ))

/-- the list at a, as it stands at each turn (a loop may append to it) -/
def Itl (K : PySem.W.Frag) (a : Addr) : It :=
  ⟨fun i H => ∃ xs x, SqL K H a xs ∧ xs[i]? = some x, fun i H x H' => H' = H ∧ ∀ xs, SqL K H a xs → xs[i]? = some x, fun i H => ∃ xs, SqL K H a xs ∧ xs.length ≤ i⟩
def Itt (K : PySem.W.Frag) (a : Addr) : It :=
  ⟨fun i H => ∃ xs x, SqT K H a xs ∧ xs[i]? = some x, fun i H x H' => H' = H ∧ ∀ xs, SqT K H a xs → xs[i]? = some x, fun i H => ∃ xs, SqT K H a xs ∧ xs.length ≤ i⟩
/-- lo, lo + 1, .. (n of them) -/
def Itr (lo : Int) (n : Nat) : It := ⟨fun i _ => i < n, fun i H x H' => H' = H ∧ x = .int (lo + i), fun i _ => n ≤ i⟩
theorem turn_list {P : Program} {w : World} {K : PySem.W.Frag} {tg : Expr} (a it : Addr) : Turn P w K tg (Itl K a) [it] it (fun i h => h.IsListIter it a i) where
  mem := by simp
  obj := fun i h st b hb => by
    have e : b = it := by simpa using hb
    subst e
    obtain ⟨o, e, c, d⟩ := st
    exact ⟨o, e, fun v z => by rw [d] at z; cases z⟩
  keep := fun i h h' st k => st.at fun o e => k it (by simp) o e
  item := by
    intro X hP hw hK hc i pins s σ H E I hf st hg
    subst hP hw hK
    obtain ⟨xs, x, hq, hx⟩ := hg
    obtain ⟨its, rv, p, hz⟩ := I.list hq
    obtain ⟨u, hu, ru⟩ := rv.get hx
    obtain ⟨f0, f1, f2, f3, f4, f5⟩ := hf it (by simp)
    refine wpAny_pyNext_list_item st p.isList (x := u) (by simpa using hu) fun h' st' sb => ?_
    have I1 : Inv X pins σ H { s with heap := h' } := I.turned (t' := s.toks) (fun b o hb e => (sb.2 b hb).trans e) f0 f1 f3 f4 f5
    obtain ⟨o, e, c, d⟩ := id st'
    exact ⟨u, rfl, go_of (s := { s with heap := h' }) e c d (by decide) ⟨x, H, I1, ru, ⟨rfl, fun ys hy => by rw [I.list_inj hy hq]; exact hx⟩, st', fun b hb => (hf b hb).1⟩⟩
  done := by
    intro X hP hw hK hc i pins s σ H E I hf st hg
    subst hP hw hK
    obtain ⟨xs, hq, hx⟩ := hg
    obtain ⟨its, rv, p, hz⟩ := I.list hq
    obtain ⟨f0, f1, f2, f3, f4, f5⟩ := hf it (by simp)
    have hl := rv.length
    exact wpAny_pyNext_list_end (I.ok.hd hc) st p.isList (by simp; omega) fun h' eb => ⟨rfl, I.turned (t' := s.toks) (fun b o hb e => eb b o hb e) f0 f1 f3 f4 f5⟩
  self := fun _ _ _ _ _ st h => wpAny_pyIter_listiter st h
theorem turn_tuple {P : Program} {w : World} {K : PySem.W.Frag} {tg : Expr} (a it : Addr) : Turn P w K tg (Itt K a) [it] it (fun i h => h.IsTupleIter it a i) where
  mem := by simp
  obj := fun i h st b hb => by
    have e : b = it := by simpa using hb
    subst e
    obtain ⟨o, e, c, d⟩ := st
    exact ⟨o, e, fun v z => by rw [d] at z; cases z⟩
  keep := fun i h h' st k => st.at fun o e => k it (by simp) o e
  item := by
    intro X hP hw hK hc i pins s σ H E I hf st hg
    subst hP hw hK
    obtain ⟨xs, x, hq, hx⟩ := hg
    obtain ⟨its, rv, p, hz⟩ := I.tuple hq
    obtain ⟨u, hu, ru⟩ := rv.get hx
    obtain ⟨f0, f1, f2, f3, f4, f5⟩ := hf it (by simp)
    refine wpAny_pyNext_tuple_item st (show s.heap.IsTuple a its.toArray from p) (x := u) (by simpa using hu) fun h' st' sb => ?_
    have I1 : Inv X pins σ H { s with heap := h' } := I.turned (t' := s.toks) (fun b o hb e => (sb.2 b hb).trans e) f0 f1 f3 f4 f5
    obtain ⟨o, e, c, d⟩ := id st'
    exact ⟨u, rfl, go_of (s := { s with heap := h' }) e c d (by decide) ⟨x, H, I1, ru, ⟨rfl, fun ys hy => by rw [I.tuple_inj hy hq]; exact hx⟩, st', fun b hb => (hf b hb).1⟩⟩
  done := by
    intro X hP hw hK hc i pins s σ H E I hf st hg
    subst hP hw hK
    obtain ⟨xs, hq, hx⟩ := hg
    obtain ⟨its, rv, p, hz⟩ := I.tuple hq
    obtain ⟨f0, f1, f2, f3, f4, f5⟩ := hf it (by simp)
    have hl := rv.length
    exact wpAny_pyNext_tuple_end (I.ok.hd hc) st (show s.heap.IsTuple a its.toArray from p) (by simp; omega) fun h' eb => ⟨rfl, I.turned (t' := s.toks) (fun b o hb e => eb b o hb e) f0 f1 f3 f4 f5⟩
  self := fun _ _ _ _ _ st h => wpAny_pyIter_tupleiter st h
theorem turn_range {P : Program} {w : World} {K : PySem.W.Frag} {tg : Expr} (it : Addr) (lo : Int) (n : Nat) : Turn P w K tg (Itr lo n) [it] it (fun i h => IsRangeIter h it (lo + (i : Nat) * 1) ((n : Int) - (i : Nat)) 1) where
  mem := by simp
  obj := fun i h st b hb => by
    have e : b = it := by simpa using hb
    subst e
    exact ⟨_, st, fun v z => by
      have z' : Data.fields _ = Data.cell v := z
      cases z'⟩
  keep := fun i h h' st k => k it (by simp) _ st
  item := by
    intro X hP hw hK hc i pins s σ H E I hf st hg
    subst hP hw hK
    obtain ⟨f0, f1, f2, f3, f4, f5⟩ := hf it (by simp)
    have W := Walks.range (prog := X.prog) (w := X.w) (I.ok.hd hc) it lo 1 n
    refine W.item i s _ _ hg st fun v h' tk hv st' kk => ?_
    obtain ⟨t, rfl⟩ := hv
    have I1 : Inv X pins σ H { s with heap := h', toks := tk } := I.turned (fun b o hb e => kk b o (by simpa using hb) e) f0 f1 f3 f4 f5
    refine ⟨_, rfl, go_of (s := { s with heap := h', toks := tk }) (n := "range_iterator") st' rfl rfl (by decide) ⟨.int (lo + i), H, I1, ⟨t, ?_⟩, ⟨rfl, rfl⟩, st', fun b hb => (hf b hb).1⟩⟩
    rw [Int.mul_one]
  done := by
    intro X hP hw hK hc i pins s σ H E I hf st hg
    subst hP hw hK
    obtain ⟨f0, f1, f2, f3, f4, f5⟩ := hf it (by simp)
    exact wpAny_pyNext_range_end (I.ok.hd hc) st (by have : n ≤ i := hg; omega) fun h' eb => ⟨rfl, I.turned (t' := s.toks) (fun b o hb e => eb b o hb e) f0 f1 f3 f4 f5⟩
  self := fun _ _ _ _ _ st h => wpAny_pyIter_rangeiter st h
end L2

namespace L2
open PySem PySem.Spec PyProof.Rows
section
variable {X : Cx} {tg : Expr}
def iList (K : PySem.W.Frag) (tl : TE) : TI := fun σ H R => tl σ H fun x H1 => ∃ a, x = .ref a ∧ (∃ xs, SqL K H1 a xs) ∧ R (Itl K a) H1
def iTup (K : PySem.W.Frag) (tl : TE) : TI := fun σ H R => tl σ H fun x H1 => ∃ a, x = .ref a ∧ (∃ xs, SqT K H1 a xs) ∧ R (Itt K a) H1
theorem pi_list {l : Expr} {tl : TE} (hl : PE X l tl) : PI X tg l (iList X.K tl) := by
  intro pins s σ H R I h
  refine thn (hl pins s σ H _ I h) fun v s1 ⟨x, H1, I1, r1, q1⟩ => ?_
  obtain ⟨a, e, ⟨xs, hq⟩, q⟩ := q1
  subst e
  cases r1
  obtain ⟨its, rv, p, hz⟩ := I1.list hq
  refine wpAny_pyIter_list p.isList ?_
  refine ⟨s1.heap.objs.size, [s1.heap.objs.size], _, _, H1, rfl, I1.kept (t' := s1.toks) fun b o e => Heap.get?_push_of_some _ e, turn_list a _, ⟨_, Heap.get?_push_size _ rfl, rfl, rfl⟩, fun b hb => ?_, q⟩
  have e : b = s1.heap.objs.size := by simpa using hb
  subst e
  exact I1.fpOk (Nat.le_refl _) (I1.hok.fresh (Nat.le_refl _))
theorem pi_tup {l : Expr} {tl : TE} (hl : PE X l tl) : PI X tg l (iTup X.K tl) := by
  intro pins s σ H R I h
  refine thn (hl pins s σ H _ I h) fun v s1 ⟨x, H1, I1, r1, q1⟩ => ?_
  obtain ⟨a, e, ⟨xs, hq⟩, q⟩ := q1
  subst e
  cases r1
  obtain ⟨its, rv, p, hz⟩ := I1.tuple hq
  refine wpAny_pyIter_tuple (show s1.heap.IsTuple a its.toArray from p) ?_
  refine ⟨s1.heap.objs.size, [s1.heap.objs.size], _, _, H1, rfl, I1.kept (t' := s1.toks) fun b o e => Heap.get?_push_of_some _ e, turn_tuple a _, ⟨_, Heap.get?_push_size _ rfl, rfl, rfl⟩, fun b hb => ?_, q⟩
  have e : b = s1.heap.objs.size := by simpa using hb
  subst e
  exact I1.fpOk (Nat.le_refl _) (I1.hok.fresh (Nat.le_refl _))
/-- a range object just made, walked -/
theorem range_it {pins : List (Addr × Obj)} {σ : St} {H : Hp} {s : Shared} {R : It → Hp → Prop} {E : Value → Shared → Prop} {lo hi : Int} {t u v : Tok} {tk : Nat} (I : Inv X pins σ H s) (h1 : -(2 ^ 62) ≤ lo) (h2 : lo < 2 ^ 62) (h3 : -(2 ^ 62) ≤ hi) (h4 : hi < 2 ^ 62)
    (q : R (Itr lo (hi - lo).toNat) H) : wpAny (model X.prog X.w) X.A (pyIter (.ref s.heap.objs.size)) (PIE X pins σ tg R) E { s with heap := s.heap.push { cls := .type "range", data := .fields #[.int lo t, .int hi u, .int 1 v] }, toks := tk } := by
  refine wpAny_pyIter_range (IsRange.new ..) (small_one h1 h2 h3 h4) ?_
  have I1 : Inv X pins σ H { s with heap := s.heap.push { cls := .type "range", data := .fields #[.int lo t, .int hi u, .int 1 v] }, toks := tk } := I.kept fun b o e => Heap.get?_push_of_some _ e
  refine ⟨(s.heap.push { cls := .type "range", data := .fields #[.int lo t, .int hi u, .int 1 v] }).objs.size, [(s.heap.push { cls := .type "range", data := .fields #[.int lo t, .int hi u, .int 1 v] }).objs.size], _, _, H, rfl,
    I1.kept (t' := tk) fun b o e => Heap.get?_push_of_some _ e, turn_range _ lo (hi - lo).toNat, ?_, fun b hb => ?_, q⟩
  · have e1 : lo + ((0 : Nat) : Int) * 1 = lo := by simp
    have e2 : (((hi - lo).toNat : Nat) : Int) - ((0 : Nat) : Int) = Builtin.Range.rangeSize lo hi 1 := by rw [rangeSize_one]; split <;> omega
    show IsRangeIter _ _ (lo + ((0 : Nat) : Int) * 1) ((((hi - lo).toNat : Nat) : Int) - ((0 : Nat) : Int)) 1
    rw [e1, e2]
    exact Heap.get?_push_size _ rfl
  · have e : b = (s.heap.push { cls := .type "range", data := .fields #[.int lo t, .int hi u, .int 1 v] }).objs.size := by simpa using hb
    subst e
    exact I1.fpOk (Nat.le_refl _) (I1.hok.fresh (Nat.le_refl _))
def iRng1 (ta : TA) : TI := fun σ H R => ta σ H fun vs H1 => ∃ j : Int, vs = [.int j] ∧ -(2 ^ 62) ≤ j ∧ j < 2 ^ 62 ∧ R (Itr 0 j.toNat) H1
def iRng2 (ta : TA) : TI := fun σ H R => ta σ H fun vs H1 => ∃ i j : Int, vs = [.int i, .int j] ∧ (-(2 ^ 62) ≤ i ∧ i < 2 ^ 62 ∧ -(2 ^ 62) ≤ j ∧ j < 2 ^ 62) ∧ R (Itr i (j - i).toNat) H1
theorem pi_range1 {a : Expr} {ta : TA} {p pos : Pos} (hg : Gl X "range") (hm : X.mg "range" = none) (ha : PA X [a] ta) (hs : starEach [a] X.env = [(false, eval a X.env)] := by rfl) : PI X tg (.Call (.Name "range" p) [a] [] pos) (iRng1 ta) := by
  intro pins s σ H R I h
  refine Call_ (ld_blt I hg hm boot_range (PyProof.Rows.callWith_type1 (thn (ha pos pins s σ H _ I h) fun us s1 ⟨vs, H1, I1, r1, q1⟩ => ?_) hs rfl))
  obtain ⟨j, e, q1, q2, q⟩ := q1
  subst e
  cases r1 with
  | cons r rr =>
    cases rr
    obtain ⟨t, rfl⟩ := r
    exact call_range_1 (range_it I1 (by omega) (by omega) q1 q2 (by simpa using q))
theorem pi_range2 {a b : Expr} {ta : TA} {p pos : Pos} (hg : Gl X "range") (hm : X.mg "range" = none) (ha : PA X [a, b] ta) (hs : starEach [a, b] X.env = [(false, eval a X.env), (false, eval b X.env)] := by rfl) (hs2 : starEach [b] X.env = [(false, eval b X.env)] := by rfl) :
    PI X tg (.Call (.Name "range" p) [a, b] [] pos) (iRng2 ta) := by
  intro pins s σ H R I h
  refine Call_ (ld_blt I hg hm boot_range (PyProof.Rows.callWith_type1 (thn (ha pos pins s σ H _ I h) fun us s1 ⟨vs, H1, I1, r1, q1⟩ => ?_) (by rw [hs, hs2]) (by rw [hs2]; rfl)))
  obtain ⟨i, j, e, ⟨q1, q2, q3, q4⟩, q⟩ := q1
  subst e
  cases r1 with
  | cons r rr =>
    cases rr with
    | cons r' rr =>
      cases rr
      obtain ⟨t, rfl⟩ := r
      obtain ⟨t', rfl⟩ := r'
      exact call_range_2 (range_it I1 q1 q2 q3 q4 q)

/-! ### for -/
/-- W: the invariant by the turn and a measure; N: what the body is to reach -/
def tFor (wi : TI) (g : TG) (tb : TS) : TS := fun D σ H => wi σ H fun J H1 => ∃ W : Nat → Nat → St → Hp → Prop, (∃ m, W 0 m σ H1) ∧ ∀ i m σ H, W i m σ H →
  (J.stop i H ∧ D.nx σ H) ∨ (J.go i H ∧ ∃ N : St → Hp → Prop, (∀ σ' H', N σ' H' → ∃ m', m' < m ∧ W (i + 1) m' σ' H') ∧ ∀ x H', J.yld i H x H' → g x σ H' fun σ2 H2 => tb { D with nx := N, ct := N, bk := D.nx } σ2 H2)
/-- the records at fp as they stand -/
def pinsAt (fp : List Addr) (h : Heap) : List (Addr × Obj) := fp.filterMap fun b => (h.get? b).map fun o => (b, o)
theorem mem_pinsAt {fp : List Addr} {h : Heap} {b : Addr} {o : Obj} (hb : b ∈ fp) (e : h.get? b = some o) : (b, o) ∈ pinsAt fp h := List.mem_filterMap.mpr ⟨b, hb, by rw [e]; rfl⟩
theorem of_pinsAt {fp : List Addr} {h : Heap} {p : Addr × Obj} (hp : p ∈ pinsAt fp h) : p.1 ∈ fp ∧ h.get? p.1 = some p.2 := by
  obtain ⟨b, hb, e⟩ := List.mem_filterMap.mp hp
  cases q : h.get? b with
  | none => rw [q] at e; cases e
  | some o =>
    rw [q] at e
    have e' : (b, o) = p := Option.some.inj e
    subst e'
    exact ⟨hb, q⟩
theorem Inv.pinned {pins : List (Addr × Obj)} {σ : St} {H : Hp} {s : Shared} {fp : List Addr} (I : Inv X pins σ H s) (hf : ∀ b ∈ fp, FpOk X pins H b) (ho : ∀ b ∈ fp, ∃ o, s.heap.get? b = some o ∧ ∀ v, o.data ≠ .cell v) : Inv X (pins ++ pinsAt fp s.heap) σ H s :=
  I.pins_of fun p hp => (List.mem_append.mp hp).elim (fun z => I.pin p (List.mem_append_right _ z)) fun z => by
    obtain ⟨hb, e⟩ := of_pinsAt z
    obtain ⟨f0, f1, f2, _⟩ := hf p.1 hb
    obtain ⟨o, e', d⟩ := ho p.1 hb
    rw [e] at e'; cases e'
    exact ⟨e, f0, f1, f2, d⟩
theorem Inv.unpinned {pins pl : List (Addr × Obj)} {σ : St} {H : Hp} {s : Shared} (I : Inv X (pins ++ pl) σ H s) : Inv X pins σ H s := I.pins_of fun p hp => I.pin p (List.mem_append_right _ (List.mem_append_left _ hp))
theorem ps_for {iter : Expr} {body : List Stmt} {wi : TI} {g : TG} {tb : TS} {pos : Pos} (hp : PassesOwn (model X.prog X.w) X.A X.env X.xe) (hc : X.calm = true) (hi : PI X tg iter wi) (hg : PG X tg g) (hb : PSs X body tb)
    (hs : ∀ x, foldedSetIterable iter X.env x = pure x := by intro _; rfl) : PS X (.For tg iter body [] pos) (tFor wi g tb) := by
  intro pins s σ H D I h
  refine wpAny_For (thn (hi pins s σ H _ I h) fun v s1 h1 => thn h1 fun itv s2 h2 => ?_) hs
  obtain ⟨it, fp, tn, J, H2, e, I2, T, st2, f2, W, ⟨m0, w0⟩, turn⟩ := h2
  subst e
  -- what stays true of the iterator's objects through the loop
  have stat : ∀ {H' : Hp}, (∀ b ∈ fp, H' b = none) → ∀ b ∈ fp, FpOk X pins H' b := fun hn b hb => ⟨hn b hb, (f2 b hb).2⟩
  refine codeAny_forLoop_any (fun n s' => ∃ i σ' H', Inv X pins σ' H' s' ∧ tn i s'.heap ∧ (∀ b ∈ fp, H' b = none) ∧ W i n σ' H') ?_ m0 ⟨0, σ, H2, I2, st2, fun b hb => (f2 b hb).1, w0⟩
  rintro n s3 ⟨i, σ3, H3, I3, st3, fr3, w3⟩
  rcases turn i n σ3 H3 w3 with ⟨stop, qn⟩ | ⟨go, N, hN, step⟩
  · refine wpAny_passesOwn hp (thn (T.done X rfl rfl rfl hc i pins s3 σ3 H3 X.xe I3 (stat fr3) st3 stop) fun r s4 ⟨hr, I4⟩ => ?_)
    subst hr
    exact wpAny_execs_nil ⟨σ3, H3, I4, qn⟩
  · refine wpAny_passesOwn hp (thn (T.item X rfl rfl rfl hc i pins s3 σ3 H3 X.xe I3 (stat fr3) st3 go) fun r s4 ⟨u, hr, h4⟩ => ?_)
    subst hr
    refine wpAny_passesOwn hp (thn h4 fun _ s5 ⟨x, H5, I5, r5, y5, st5, fr5⟩ => ?_)
    have I5' := I5.pinned (stat fr5) (T.obj _ _ st5)
    refine wpAny_passesOwn hp (thn (hg _ s5 σ3 H5 x u _ I5' r5 (step x H5 y5)) fun _ s6 ⟨σ6, H6, I6, q6⟩ => ?_)
    refine wpAny_passesOwn hp (thn (hb _ s6 σ6 H6 _ I6 q6) fun f s7 q7 => ?_)
    have again : ∀ {σ7 : St} {H7 : Hp}, Inv X (pins ++ pinsAt fp s5.heap) σ7 H7 s7 → N σ7 H7 → ∃ m, m < n ∧ ∃ i σ' H', Inv X pins σ' H' s7 ∧ tn i s7.heap ∧ (∀ b ∈ fp, H' b = none) ∧ W i m σ' H' := fun {σ7 H7} I7 n7 => by
      obtain ⟨m', hm, w7⟩ := hN σ7 H7 n7
      refine ⟨m', hm, i + 1, σ7, H7, I7.unpinned, T.keep _ _ _ st5 fun b hb o e => (I7.pin (b, o) (List.mem_append_right _ (List.mem_append_right _ (mem_pinsAt hb e)))).1, fun b hb => ?_, w7⟩
      obtain ⟨o, e, d⟩ := T.obj _ _ st5 b hb
      exact (I7.pin (b, o) (List.mem_append_right _ (List.mem_append_right _ (mem_pinsAt hb e)))).2.1
    cases f with
    | next => obtain ⟨σ7, H7, I7, n7⟩ := q7; exact again I7 n7
    | cont => obtain ⟨σ7, H7, I7, n7⟩ := q7; exact again I7 n7
    | brk => obtain ⟨σ7, H7, I7, q7⟩ := q7; exact ⟨σ7, H7, I7.unpinned, q7⟩
    | ret v => obtain ⟨x7, σ7, H7, I7, r7, q7⟩ := q7; exact ⟨x7, σ7, H7, I7.unpinned, r7, q7⟩
end

/-! ### the forms one uses -/
/-- over a list that the body leaves as it is -/
theorem for_list {K : PySem.W.Frag} {a : Addr} {xs : List V} {g : TG} {tb : TS} {D : Ends} {σ : St} {H : Hp} (Pv : Nat → St → Hp → Prop) (h0 : Pv 0 σ H) (hl : ∀ i σ H, i ≤ xs.length → Pv i σ H → SqL K H a xs)
    (hs : ∀ i x σ H, xs[i]? = some x → Pv i σ H → g x σ H fun σ2 H2 => tb { D with nx := Pv (i + 1), ct := Pv (i + 1), bk := D.nx } σ2 H2) (hd : ∀ σ H, Pv xs.length σ H → D.nx σ H) :
    ∃ W : Nat → Nat → St → Hp → Prop, (∃ m, W 0 m σ H) ∧ ∀ i m σ H, W i m σ H →
      ((Itl K a).stop i H ∧ D.nx σ H) ∨ ((Itl K a).go i H ∧ ∃ N : St → Hp → Prop, (∀ σ' H', N σ' H' → ∃ m', m' < m ∧ W (i + 1) m' σ' H') ∧ ∀ x H', (Itl K a).yld i H x H' → g x σ H' fun σ2 H2 => tb { D with nx := N, ct := N, bk := D.nx } σ2 H2) := by
  refine ⟨fun i m σ H => m = xs.length - i ∧ i ≤ xs.length ∧ Pv i σ H, ⟨xs.length, by simp, Nat.zero_le _, h0⟩, ?_⟩
  rintro i m σ H ⟨rfl, hi, p⟩
  have q := hl i σ H hi p
  by_cases hlt : i < xs.length
  · refine .inr ⟨⟨xs, xs[i], q, by simp [hlt]⟩, Pv (i + 1), fun σ' H' p' => ⟨xs.length - (i + 1), by omega, rfl, hlt, p'⟩, fun x H' y => ?_⟩
    obtain ⟨e, y⟩ := y
    subst e
    exact hs i x σ _ (y xs q) p
  · have e : i = xs.length := by omega
    subst e
    exact .inl ⟨⟨xs, q, Nat.le_refl _⟩, hd σ H p⟩
theorem for_tup {K : PySem.W.Frag} {a : Addr} {xs : List V} {g : TG} {tb : TS} {D : Ends} {σ : St} {H : Hp} (Pv : Nat → St → Hp → Prop) (h0 : Pv 0 σ H) (hl : ∀ i σ H, i ≤ xs.length → Pv i σ H → SqT K H a xs)
    (hs : ∀ i x σ H, xs[i]? = some x → Pv i σ H → g x σ H fun σ2 H2 => tb { D with nx := Pv (i + 1), ct := Pv (i + 1), bk := D.nx } σ2 H2) (hd : ∀ σ H, Pv xs.length σ H → D.nx σ H) :
    ∃ W : Nat → Nat → St → Hp → Prop, (∃ m, W 0 m σ H) ∧ ∀ i m σ H, W i m σ H →
      ((Itt K a).stop i H ∧ D.nx σ H) ∨ ((Itt K a).go i H ∧ ∃ N : St → Hp → Prop, (∀ σ' H', N σ' H' → ∃ m', m' < m ∧ W (i + 1) m' σ' H') ∧ ∀ x H', (Itt K a).yld i H x H' → g x σ H' fun σ2 H2 => tb { D with nx := N, ct := N, bk := D.nx } σ2 H2) := by
  refine ⟨fun i m σ H => m = xs.length - i ∧ i ≤ xs.length ∧ Pv i σ H, ⟨xs.length, by simp, Nat.zero_le _, h0⟩, ?_⟩
  rintro i m σ H ⟨rfl, hi, p⟩
  have q := hl i σ H hi p
  by_cases hlt : i < xs.length
  · refine .inr ⟨⟨xs, xs[i], q, by simp [hlt]⟩, Pv (i + 1), fun σ' H' p' => ⟨xs.length - (i + 1), by omega, rfl, hlt, p'⟩, fun x H' y => ?_⟩
    obtain ⟨e, y⟩ := y
    subst e
    exact hs i x σ _ (y xs q) p
  · have e : i = xs.length := by omega
    subst e
    exact .inl ⟨⟨xs, q, Nat.le_refl _⟩, hd σ H p⟩
theorem for_range {lo : Int} {n : Nat} {g : TG} {tb : TS} {D : Ends} {σ : St} {H : Hp} (Pv : Nat → St → Hp → Prop) (h0 : Pv 0 σ H)
    (hs : ∀ i σ H, i < n → Pv i σ H → g (.int (lo + i)) σ H fun σ2 H2 => tb { D with nx := Pv (i + 1), ct := Pv (i + 1), bk := D.nx } σ2 H2) (hd : ∀ σ H, Pv n σ H → D.nx σ H) :
    ∃ W : Nat → Nat → St → Hp → Prop, (∃ m, W 0 m σ H) ∧ ∀ i m σ H, W i m σ H →
      ((Itr lo n).stop i H ∧ D.nx σ H) ∨ ((Itr lo n).go i H ∧ ∃ N : St → Hp → Prop, (∀ σ' H', N σ' H' → ∃ m', m' < m ∧ W (i + 1) m' σ' H') ∧ ∀ x H', (Itr lo n).yld i H x H' → g x σ H' fun σ2 H2 => tb { D with nx := N, ct := N, bk := D.nx } σ2 H2) := by
  refine ⟨fun i m σ H => m = n - i ∧ i ≤ n ∧ Pv i σ H, ⟨n, by simp, Nat.zero_le _, h0⟩, ?_⟩
  rintro i m σ H ⟨rfl, hi, p⟩
  by_cases hlt : i < n
  · refine .inr ⟨hlt, Pv (i + 1), fun σ' H' p' => ⟨n - (i + 1), by omega, rfl, hlt, p'⟩, fun x H' y => ?_⟩
    obtain ⟨e, y⟩ := y
    subst e y
    exact hs i σ _ hlt p
  · have e : i = n := by omega
    subst e
    exact .inl ⟨Nat.le_refl _, hd σ H p⟩
/-- while, by a word and a measure of the state -/
theorem while_by {c : TT} {tb : TS} {D : Ends} {σ : St} {H : Hp} (Pv : St → Hp → Prop) (μ : St → Hp → Nat) (h0 : Pv σ H)
    (hs : ∀ σ H, Pv σ H → c σ H fun b H1 => if b = true then tb { D with nx := fun σ' H' => Pv σ' H' ∧ μ σ' H' < μ σ H, ct := fun σ' H' => Pv σ' H' ∧ μ σ' H' < μ σ H, bk := D.nx } σ H1 else D.nx σ H1)
    (mono : ∀ σ H Q Q', (∀ b H1, Q b H1 → Q' b H1) → c σ H Q → c σ H Q') : tWhile c tb D σ H := by
  refine ⟨fun m σ H => m = μ σ H ∧ Pv σ H, ⟨_, rfl, h0⟩, ?_⟩
  rintro m σ H ⟨rfl, p⟩
  refine mono σ H _ _ (fun b H1 q => ?_) (hs σ H p)
  cases b with
  | true => exact ⟨_, fun σ' H' ⟨p', l⟩ => ⟨_, l, rfl, p'⟩, q⟩
  | false => exact q
end L2

namespace L2
open PySem PySem.Spec PyProof.Rows

abbrev R2 := V → V → Hp → VK → Prop
/-- a two-place operation on values: f is binaryOp op, inplaceOp op or compareOp op -/
def OpR (X : Cx) (f : Value → Value → Sem Value) (r : R2) : Prop :=
  ∀ (pins : List (Addr × Obj)) (s : Shared) (σ : St) (H : Hp) (x y : V) (v u : Value) (Q : VK), Inv X pins σ H s → RelV x v → RelV y u → r x y H Q →
    wpAny (model X.prog X.w) X.A (f v u) (EP X pins σ Q) X.xe s
/-- a one-place operation -/
def UnR (X : Cx) (f : Value → Sem Value) (r : V → Hp → VK → Prop) : Prop :=
  ∀ (pins : List (Addr × Obj)) (s : Shared) (σ : St) (H : Hp) (x : V) (v : Value) (Q : VK), Inv X pins σ H s → RelV x v → r x H Q →
    wpAny (model X.prog X.w) X.A (f v) (EP X pins σ Q) X.xe s
/-- a call of a value that is known (a builtin, a type) with values -/
def CallR (X : Cx) (f : Value) (r : List V → Hp → VK → Prop) : Prop :=
  ∀ (pins : List (Addr × Obj)) (s : Shared) (σ : St) (H : Hp) (xs : List V) (us : List Value) (Q : VK), Inv X pins σ H s → Vals xs us → r xs H Q →
    wpAny (model X.prog X.w) X.A (call f us) (EP X pins σ Q) X.xe s
/-- a value's truth -/
def TruR (X : Cx) (r : V → Hp → (Bool → Hp → Prop) → Prop) : Prop :=
  ∀ (pins : List (Addr × Obj)) (s : Shared) (σ : St) (H : Hp) (x : V) (v : Value) (Q : Bool → Hp → Prop), Inv X pins σ H s → RelV x v → r x H Q →
    wpAny (model X.prog X.w) X.A (truthy v) (TP X pins σ Q) X.xe s

def tOp (r : R2) (ta tb : TE) : TE := fun σ H Q => ta σ H fun x H1 => tb σ H1 fun y H2 => r x y H2 Q
def tUn (r : V → Hp → VK → Prop) (ta : TE) : TE := fun σ H Q => ta σ H fun x H1 => r x H1 Q
/-- ints in, under C, and a value out -/
def rI (C : Int → Int → Prop) (g : Int → Int → V) : R2 := fun x y H Q => ∃ i j, x = .int i ∧ y = .int j ∧ C i j ∧ Q (g i j) H
def rI0 (g : Int → Int → V) : R2 := fun x y H Q => ∃ i j, x = .int i ∧ y = .int j ∧ Q (g i j) H
def rU (g : Int → V) : V → Hp → VK → Prop := fun x H Q => ∃ i, x = .int i ∧ Q (g i) H

section
variable {X : Cx} {a b c : Expr} {ta tb tc : TE} {pos : Pos}

theorem binT (ha : PE X a ta) (hb : PE X b tb) {pins : List (Addr × Obj)} {s : Shared} {σ : St} {H : Hp} {R : V → V → Hp → Prop} (I : Inv X pins σ H s)
    (h : ta σ H fun x H1 => tb σ H1 fun y H2 => R x y H2) {Q : Value → Shared → Prop} {f : Value → Value → Sem Value}
    (hf : ∀ v u s2 x y H2, Inv X pins σ H2 s2 → RelV x v → RelV y u → R x y H2 → wpAny (model X.prog X.w) X.A (f v u) Q X.xe s2) :
    wpAny (model X.prog X.w) X.A (eval a X.env) (fun v s₁ => wpAny (model X.prog X.w) X.A (eval b X.env) (fun u s₂ => wpAny (model X.prog X.w) X.A (f v u) Q X.xe s₂) X.xe s₁) X.xe s := by
  refine thn (ha pins s σ H _ I h) fun v s1 ⟨x, H1, I1, r1, q1⟩ => ?_
  refine thn (hb pins s1 σ H1 _ I1 q1) fun u s2 ⟨y, H2, I2, r2, q2⟩ => ?_
  exact hf v u s2 x y H2 I2 r1 r2 q2

theorem pe_op {op : Operator} {r : R2} (ho : OpR X (binaryOp op) r) (ha : PE X a ta) (hb : PE X b tb) : PE X (.BinOp a op b pos) (tOp r ta tb) := by
  intro pins s σ H Q I h
  exact wpAny_BinOp (binT ha hb I h fun v u s2 x y H2 I2 rx ry q => ho pins s2 σ H2 x y v u Q I2 rx ry q)
theorem pe_un {op : UnaryOp} {r : V → Hp → VK → Prop} (ho : UnR X (unaryOp op) r) (ha : PE X a ta) : PE X (.UnaryOp op a pos) (tUn r ta) := by
  intro pins s σ H Q I h
  exact UnaryOp_ (thn (ha pins s σ H _ I h) fun v s1 ⟨x, H1, I1, r1, q1⟩ => ho pins s1 σ H1 x v Q I1 r1 q1)
/-- a op= e at a name: the name's slot i -/
theorem augR {op : Operator} {r : R2} (ho : OpR X (inplaceOp op) r) {pins : List (Addr × Obj)} {s : Shared} {σ : St} {H : Hp} {x y : V} {v u : Value} {Q : VK} (I : Inv X pins σ H s)
    (rx : RelV x v) (ry : RelV y u) (q : r x y H Q) : wpAny (model X.prog X.w) X.A (inplaceOp op v u) (EP X pins σ Q) X.xe s := ho pins s σ H x y v u Q I rx ry q

/-! ### ints -/
theorem opI {f : Value → Value → Sem Value} {C : Int → Int → Prop} {g : Int → Int → Int}
    (rule : ∀ (i j : Int) (t u : Tok) (s : Shared) (Q : Value → Shared → Prop) (E : Value → Shared → Prop), C i j → Q (.int (g i j) s.toks) { s with toks := s.toks + 1 } → wpAny (model X.prog X.w) X.A (f (.int i t) (.int j u)) Q E s) :
    OpR X f (rI C fun i j => .int (g i j)) := by
  intro pins s σ H x y v u Q I rx ry h
  obtain ⟨i, j, rfl, rfl, hc, q⟩ := h
  obtain ⟨t, rfl⟩ := rx
  obtain ⟨t', rfl⟩ := ry
  exact rule i j t t' s _ _ hc ⟨.int (g i j), H, I.tok _, ⟨_, rfl⟩, q⟩
theorem opI0 {f : Value → Value → Sem Value} {g : Int → Int → Int}
    (rule : ∀ (i j : Int) (t u : Tok) (s : Shared) (Q : Value → Shared → Prop) (E : Value → Shared → Prop), Q (.int (g i j) s.toks) { s with toks := s.toks + 1 } → wpAny (model X.prog X.w) X.A (f (.int i t) (.int j u)) Q E s) :
    OpR X f (rI0 fun i j => .int (g i j)) := by
  intro pins s σ H x y v u Q I rx ry h
  obtain ⟨i, j, rfl, rfl, q⟩ := h
  obtain ⟨t, rfl⟩ := rx
  obtain ⟨t', rfl⟩ := ry
  exact rule i j t t' s _ _ ⟨.int (g i j), H, I.tok _, ⟨_, rfl⟩, q⟩
theorem opB0 {f : Value → Value → Sem Value} {g : Int → Int → Bool}
    (rule : ∀ (i j : Int) (t u : Tok) (s : Shared) (Q : Value → Shared → Prop) (E : Value → Shared → Prop), Q (.bool (g i j)) s → wpAny (model X.prog X.w) X.A (f (.int i t) (.int j u)) Q E s) :
    OpR X f (rI0 fun i j => .bl (g i j)) := by
  intro pins s σ H x y v u Q I rx ry h
  obtain ⟨i, j, rfl, rfl, q⟩ := h
  obtain ⟨t, rfl⟩ := rx
  obtain ⟨t', rfl⟩ := ry
  exact rule i j t t' s _ _ ⟨.bl (g i j), H, I, rfl, q⟩

def CDiv (i j : Int) : Prop := 0 < j ∧ j < 1073741824
def CDivN (i j : Int) : Prop := j ≠ 0 ∧ j.natAbs < 1073741824
def CPow (i j : Int) : Prop := 0 ≤ j ∧ j ≤ 1000000 ∧ i.natAbs < 2 ^ 64
def CMul (i j : Int) : Prop := (-(2 ^ 64) < i ∧ i < 2 ^ 64) ∨ (-(2 ^ 64) < j ∧ j < 2 ^ 64)
theorem CMul.ok {i j : Int} (h : CMul i j) : IntMulOk i j := by
  rcases h with ⟨h1, h2⟩ | ⟨h1, h2⟩
  · exact .of_left (intBits_le_64 h1 h2)
  · exact .of_right (intBits_le_64 h1 h2)
theorem two_pow_nn (k : Nat) : (0 : Int) ≤ 2 ^ k := by
  rw [two_pow_cast]
  exact Int.natCast_nonneg _

theorem op_add : OpR X (binaryOp .Add) (rI0 fun i j => .int (i + j)) := opI0 fun _ _ _ _ _ _ _ q => add_int q
theorem op_sub : OpR X (binaryOp .Sub) (rI0 fun i j => .int (i - j)) := opI0 fun _ _ _ _ _ _ _ q => sub_int q
theorem op_mul : OpR X (binaryOp .Mult) (rI CMul fun i j => .int (i * j)) := opI fun _ _ _ _ _ _ _ hc q => mul_int q hc.ok
/-- // by a positive divisor -/
theorem op_fdiv : OpR X (binaryOp .FloorDiv) (rI CDiv fun i j => .int (i / j)) := opI fun i j _ _ _ _ _ hc q => by
  have h1 : (0 : Int) < j := hc.1
  have h2 : j < 1073741824 := hc.2
  exact floordiv_int (by omega) (by rw [Int.fdiv_eq_ediv_of_nonneg i (by omega)]; exact q) (.inl (PyProof.noPylong_small (by omega)))
theorem op_fdivN : OpR X (binaryOp .FloorDiv) (rI CDivN fun i j => .int (i.fdiv j)) := opI fun _ _ _ _ _ _ _ hc q => floordiv_int hc.1 q (.inl (PyProof.noPylong_small hc.2))
/-- % by a positive divisor of any size -/
theorem op_mod : OpR X (binaryOp .Mod) (rI (fun _ j => 0 < j) fun i j => .int (i % j)) := opI fun i j _ _ _ _ _ hc q => by
  have h1 : (0 : Int) < j := hc
  exact mod_int' (by omega) (by rw [Int.fmod_eq_emod_of_nonneg i (by omega)]; exact q)
theorem op_modN : OpR X (binaryOp .Mod) (rI (fun _ j => j ≠ 0) fun i j => .int (i.fmod j)) := opI fun _ _ _ _ _ _ _ hc q => mod_int' hc q
theorem op_pow : OpR X (binaryOp .Pow) (rI CPow fun i j => .int (i ^ j.toNat)) := opI fun _ _ _ _ _ _ _ hc q => pow_int_small hc.1 hc.2.1 hc.2.2 q
theorem op_shl : OpR X (binaryOp .LShift) (rI CPow fun i j => .int (i * 2 ^ j.toNat)) := opI fun _ _ _ _ _ _ _ hc q => lshift_int_small hc.1 hc.2.1 hc.2.2 q
theorem op_shr : OpR X (binaryOp .RShift) (rI (fun _ j => 0 ≤ j) fun i j => .int (i / 2 ^ j.toNat)) := opI fun i j _ _ _ _ _ hc q =>
  rshift_int hc (by rw [Int.fdiv_eq_ediv_of_nonneg i (two_pow_nn _)]; exact q)
theorem op_and : OpR X (binaryOp .BitAnd) (rI0 fun i j => .int (Builtin.bitAnd i j)) := opI0 fun _ _ _ _ _ _ _ q => and_int q
theorem op_or : OpR X (binaryOp .BitOr) (rI0 fun i j => .int (Builtin.bitOr i j)) := opI0 fun _ _ _ _ _ _ _ q => or_int q
theorem op_xor : OpR X (binaryOp .BitXor) (rI0 fun i j => .int (Builtin.bitXor i j)) := opI0 fun _ _ _ _ _ _ _ q => xor_int q

theorem iop_add : OpR X (inplaceOp .Add) (rI0 fun i j => .int (i + j)) := opI0 fun _ _ _ _ _ _ _ q => iadd_int q
theorem iop_sub : OpR X (inplaceOp .Sub) (rI0 fun i j => .int (i - j)) := opI0 fun _ _ _ _ _ _ _ q => isub_int q
theorem iop_mul : OpR X (inplaceOp .Mult) (rI CMul fun i j => .int (i * j)) := opI fun _ _ _ _ _ _ _ hc q => imul_int q hc.ok
theorem iop_fdiv : OpR X (inplaceOp .FloorDiv) (rI CDiv fun i j => .int (i / j)) := opI fun i j _ _ _ _ _ hc q => by
  have h1 : (0 : Int) < j := hc.1
  have h2 : j < 1073741824 := hc.2
  exact ifloordiv_int (by omega) (by rw [Int.fdiv_eq_ediv_of_nonneg i (by omega)]; exact q) (.inl (PyProof.noPylong_small (by omega)))
theorem iop_mod : OpR X (inplaceOp .Mod) (rI (fun _ j => 0 < j) fun i j => .int (i % j)) := opI fun i j _ _ _ _ _ hc q => by
  have h1 : (0 : Int) < j := hc
  exact imod_int (by omega) (by rw [Int.fmod_eq_emod_of_nonneg i (by omega)]; exact q)
theorem iop_shl : OpR X (inplaceOp .LShift) (rI CPow fun i j => .int (i * 2 ^ j.toNat)) := opI fun _ _ _ _ _ _ _ hc q => ilshift_int_small hc.1 hc.2.1 hc.2.2 q
theorem iop_shr : OpR X (inplaceOp .RShift) (rI (fun _ j => 0 ≤ j) fun i j => .int (i / 2 ^ j.toNat)) := opI fun i j _ _ _ _ _ hc q =>
  irshift_int hc (by rw [Int.fdiv_eq_ediv_of_nonneg i (two_pow_nn _)]; exact q)
theorem iop_and : OpR X (inplaceOp .BitAnd) (rI0 fun i j => .int (Builtin.bitAnd i j)) := opI0 fun _ _ _ _ _ _ _ q => iand_int q
theorem iop_or : OpR X (inplaceOp .BitOr) (rI0 fun i j => .int (Builtin.bitOr i j)) := opI0 fun _ _ _ _ _ _ _ q => ior_int q
theorem iop_xor : OpR X (inplaceOp .BitXor) (rI0 fun i j => .int (Builtin.bitXor i j)) := opI0 fun _ _ _ _ _ _ _ q => ixor_int q

theorem unI {f : Value → Sem Value} {g : Int → Int}
    (rule : ∀ (i : Int) (t : Tok) (s : Shared) (Q : Value → Shared → Prop) (E : Value → Shared → Prop), Q (.int (g i) s.toks) { s with toks := s.toks + 1 } → wpAny (model X.prog X.w) X.A (f (.int i t)) Q E s) :
    UnR X f (rU fun i => .int (g i)) := by
  intro pins s σ H x v Q I rx h
  obtain ⟨i, rfl, q⟩ := h
  obtain ⟨t, rfl⟩ := rx
  exact rule i t s _ _ ⟨.int (g i), H, I.tok _, ⟨_, rfl⟩, q⟩
theorem un_neg : UnR X (unaryOp .USub) (rU fun i => .int (-i)) := unI fun _ _ _ _ _ q => neg_int q
theorem un_inv : UnR X (unaryOp .Invert) (rU fun i => .int (Builtin.bitNot i)) := unI fun _ _ _ _ _ q => invert_int q

/-! ### bools among ints: n += (a < b) -/
theorem op_add_ib : OpR X (binaryOp .Add) (fun x y H Q => ∃ i k, x = .int i ∧ y = .bl k ∧ Q (.int (i + b2i k)) H) := by
  intro pins s σ H x y v u Q I rx ry h
  obtain ⟨i, k, rfl, rfl, q⟩ := h
  obtain ⟨t, rfl⟩ := rx
  cases ry
  exact add_int_bool ⟨.int (i + b2i k), H, I.tok _, ⟨_, rfl⟩, q⟩
end

/-! ### comparisons -/
/-- the scalars that == tells apart as data does -/
def scal : V → V → Bool
  | .non, .non => true | .non, .int _ => true | .int _, .non => true | .non, .bl _ => true | .bl _, .non => true | .non, .str _ => true | .str _, .non => true
  | .int _, .int _ => true | .bl _, .bl _ => true | .str _, .str _ => true | .byt _, .byt _ => true
  | .int _, .str _ => true | .str _, .int _ => true | .bl _, .str _ => true | .str _, .bl _ => true
  | _, _ => false
def rEq : R2 := fun x y H Q => scal x y = true ∧ Q (.bl (decide (x = y))) H
def rNe : R2 := fun x y H Q => scal x y = true ∧ Q (.bl (!decide (x = y))) H

theorem dec_int {i j : Int} : decide (V.int i = V.int j) = (i == j) := by
  rw [Bool.eq_iff_iff]
  simp
theorem dec_bl {i j : Bool} : decide (V.bl i = V.bl j) = (i == j) := by
  rw [Bool.eq_iff_iff]
  simp
theorem dec_str {i j : Str} : decide (V.str i = V.str j) = (i == j) := by
  rw [Bool.eq_iff_iff]
  simp
theorem dec_byt {i j : Array UInt8} : decide (V.byt i = V.byt j) = (i.toList == j.toList) := by
  rw [Bool.eq_iff_iff]
  cases i
  cases j
  simp

section
variable {X : Cx} {a b c : Expr} {ta tb tc : TE} {pos : Pos}
theorem fin_bl {pins : List (Addr × Obj)} {σ : St} {H : Hp} {s : Shared} {Q : VK} {k k' : Bool} (I : Inv X pins σ H s) (q : Q (.bl k) H) (e : k = k') : EP X pins σ Q (.bool k') s := by
  subst e
  exact ⟨.bl k, H, I, rfl, q⟩
theorem op_eq : OpR X (compareOp .Eq) rEq := by
  intro pins s σ H x y v u Q I rx ry h
  obtain ⟨hs, q⟩ := h
  cases x with
  | non =>
    cases rx
    cases y with
    | non => cases ry; exact PySem.EqNone.eq_none_none (fin_bl I q (by simp))
    | bl j => cases ry; exact PySem.EqNone.eq_none_bool (fin_bl I q (by simp))
    | int j => obtain ⟨t', rfl⟩ := ry; exact PySem.EqNone.eq_none_int (fin_bl I q (by simp))
    | str j => obtain ⟨t', rfl⟩ := ry; exact PySem.EqNone.eq_none_str (fin_bl I q (by simp))
    | _ => exact absurd (show false = true from hs) Bool.false_ne_true
  | bl i =>
    cases rx
    cases y with
    | non => cases ry; exact PySem.EqNone.eq_bool_none (fin_bl I q (by simp))
    | bl j => cases ry; exact eq_bool (fin_bl I q dec_bl)
    | str j => obtain ⟨t', rfl⟩ := ry; exact PySem.EqMixed.eq_bool_str (fin_bl I q (by simp))
    | _ => exact absurd (show false = true from hs) Bool.false_ne_true
  | int i =>
    obtain ⟨t, rfl⟩ := rx
    cases y with
    | non => cases ry; exact PySem.EqNone.eq_int_none (fin_bl I q (by simp))
    | int j => obtain ⟨t', rfl⟩ := ry; exact eq_int (fin_bl I q dec_int)
    | str j => obtain ⟨t', rfl⟩ := ry; exact PySem.EqMixed.eq_int_str (fin_bl I q (by simp))
    | _ => exact absurd (show false = true from hs) Bool.false_ne_true
  | str i =>
    obtain ⟨t, rfl⟩ := rx
    cases y with
    | non => cases ry; exact PySem.EqNone.eq_str_none (fin_bl I q (by simp))
    | bl j => cases ry; exact PySem.EqMixed.eq_str_bool (fin_bl I q (by simp))
    | int j => obtain ⟨t', rfl⟩ := ry; exact PySem.EqMixed.eq_str_int (fin_bl I q (by simp))
    | str j => obtain ⟨t', rfl⟩ := ry; exact eq_str (fin_bl I q dec_str)
    | _ => exact absurd (show false = true from hs) Bool.false_ne_true
  | byt i =>
    obtain ⟨t, rfl⟩ := rx
    cases y with
    | byt j => obtain ⟨t', rfl⟩ := ry; exact PySem.W.eq_bytes (fin_bl I q dec_byt)
    | _ => exact absurd (show false = true from hs) Bool.false_ne_true
  | _ => cases y <;> exact absurd (show false = true from hs) Bool.false_ne_true
theorem op_ne : OpR X (compareOp .NotEq) rNe := by
  intro pins s σ H x y v u Q I rx ry h
  obtain ⟨hs, q⟩ := h
  cases x with
  | non =>
    cases rx
    cases y with
    | non => cases ry; exact PySem.EqNone.ne_none_none (fin_bl I q (by simp))
    | bl j => cases ry; exact PySem.EqNone.ne_none_bool (fin_bl I q (by simp))
    | int j => obtain ⟨t', rfl⟩ := ry; exact PySem.EqNone.ne_none_int (fin_bl I q (by simp))
    | str j => obtain ⟨t', rfl⟩ := ry; exact PySem.EqNone.ne_none_str (fin_bl I q (by simp))
    | _ => exact absurd (show false = true from hs) Bool.false_ne_true
  | bl i =>
    cases rx
    cases y with
    | non => cases ry; exact PySem.EqNone.ne_bool_none (fin_bl I q (by simp))
    | bl j => cases ry; exact ne_bool (fin_bl I q (congrArg not dec_bl))
    | str j => obtain ⟨t', rfl⟩ := ry; exact PySem.EqMixed.ne_bool_str (fin_bl I q (by simp))
    | _ => exact absurd (show false = true from hs) Bool.false_ne_true
  | int i =>
    obtain ⟨t, rfl⟩ := rx
    cases y with
    | non => cases ry; exact PySem.EqNone.ne_int_none (fin_bl I q (by simp))
    | int j => obtain ⟨t', rfl⟩ := ry; exact ne_int (fin_bl I q (congrArg not dec_int))
    | str j => obtain ⟨t', rfl⟩ := ry; exact PySem.EqMixed.ne_int_str (fin_bl I q (by simp))
    | _ => exact absurd (show false = true from hs) Bool.false_ne_true
  | str i =>
    obtain ⟨t, rfl⟩ := rx
    cases y with
    | non => cases ry; exact PySem.EqNone.ne_str_none (fin_bl I q (by simp))
    | bl j => cases ry; exact PySem.EqMixed.ne_str_bool (fin_bl I q (by simp))
    | int j => obtain ⟨t', rfl⟩ := ry; exact PySem.EqMixed.ne_str_int (fin_bl I q (by simp))
    | str j => obtain ⟨t', rfl⟩ := ry; exact ne_str (fin_bl I q (congrArg not dec_str))
    | _ => exact absurd (show false = true from hs) Bool.false_ne_true
  | byt i =>
    obtain ⟨t, rfl⟩ := rx
    cases y with
    | byt j => obtain ⟨t', rfl⟩ := ry; exact PySem.W.ne_bytes (fin_bl I q (congrArg not dec_byt))
    | _ => exact absurd (show false = true from hs) Bool.false_ne_true
  | _ => cases y <;> exact absurd (show false = true from hs) Bool.false_ne_true

theorem op_lt : OpR X (compareOp .Lt) (rI0 fun i j => .bl (decide (i < j))) := opB0 fun _ _ _ _ _ _ _ q => lt_int q
theorem op_le : OpR X (compareOp .LtE) (rI0 fun i j => .bl (decide (i ≤ j))) := opB0 fun _ _ _ _ _ _ _ q => le_int q
theorem op_gt : OpR X (compareOp .Gt) (rI0 fun i j => .bl (decide (j < i))) := opB0 fun _ _ _ _ _ _ _ q => gt_int q
theorem op_ge : OpR X (compareOp .GtE) (rI0 fun i j => .bl (decide (j ≤ i))) := opB0 fun _ _ _ _ _ _ _ q => ge_int q
theorem op_lt_str : OpR X (compareOp .Lt) (fun x y H Q => ∃ i j, x = .str i ∧ y = .str j ∧ Q (.bl (decide (i.cps.toList < j.cps.toList))) H) := by
  intro pins s σ H x y v u Q I rx ry h
  obtain ⟨i, j, rfl, rfl, q⟩ := h
  obtain ⟨t, rfl⟩ := rx
  obtain ⟨t', rfl⟩ := ry
  exact lt_str (fin_bl I q rfl)
/-- the one string within the other -/
theorem op_in_str : OpR X (compareOp .In) (fun x y H Q => ∃ i j, x = .str i ∧ y = .str j ∧ Q (.bl (!(Builtin.Str.occurrences j i 0 j.length 1).isEmpty)) H) := by
  intro pins s σ H x y v u Q I rx ry h
  obtain ⟨i, j, rfl, rfl, q⟩ := h
  obtain ⟨t, rfl⟩ := rx
  obtain ⟨t', rfl⟩ := ry
  exact in_str (fin_bl I q rfl)

/-- is None, is not None: the right side a value none -/
theorem op_isN : OpR X (compareOp .Is) (fun x y H Q => y = .non ∧ Q (.bl (decide (x = .non))) H) := by
  intro pins s σ H x y v u Q I rx ry h
  obtain ⟨rfl, q⟩ := h
  cases ry
  refine is_none_gen (fin_bl I q ?_)
  cases x <;> first
    | (cases rx; rfl)
    | (obtain ⟨t, rfl⟩ := rx; rfl)
theorem op_notN : OpR X (compareOp .IsNot) (fun x y H Q => y = .non ∧ Q (.bl (!decide (x = .non))) H) := by
  intro pins s σ H x y v u Q I rx ry h
  obtain ⟨rfl, q⟩ := h
  cases ry
  refine isnot_none_gen (fin_bl I q ?_)
  cases x <;> first
    | (cases rx; rfl)
    | (obtain ⟨t, rfl⟩ := rx; rfl)

theorem op_notin_str : OpR X (compareOp .NotIn) (fun x y H Q => ∃ i j, x = .str i ∧ y = .str j ∧ Q (.bl (!(!(Builtin.Str.occurrences j i 0 j.length 1).isEmpty))) H) := by
  intro pins s σ H x y v u Q I rx ry h
  obtain ⟨i, j, rfl, rfl, q⟩ := h
  obtain ⟨t, rfl⟩ := rx
  obtain ⟨t', rfl⟩ := ry
  exact notIn_str (fin_bl I q rfl)
/-- is, is not of two objects that are tracked lists or instances -/
def isObj : HO → Bool
  | .lst _ => true
  | .ins _ _ _ => true
  | _ => false
theorem obj_there {pins : List (Addr × Obj)} {s : Shared} {σ : St} {H : Hp} {a : Addr} {o : HO} (I : Inv X pins σ H s) (h : H a = some o) (p : isObj o = true) : ∃ ob, s.heap.get? a = some ob ∧ ob.cls ≠ .type "tuple" := by
  cases o with
  | lst xs =>
    obtain ⟨_, its, n, _, e⟩ : xs.length ≤ sizeLine ∧ ∃ (its : List Value) (n : Nat), Vals xs its ∧ s.heap.get? a = some { cls := .type "list", data := .seq its.toArray n } := I.hok a _ h
    exact ⟨_, e, (by show Value.type "list" ≠ .type "tuple"; decide +kernel)⟩
  | ins C dx fs =>
    have x := I.hok a _ h
    obtain ⟨_, _, _, e, _⟩ := x
    exact ⟨_, e, (by show Value.ref C ≠ .type "tuple"; exact fun z => by cases z)⟩
  | _ => exact absurd (show false = true from p) Bool.false_ne_true
theorem op_is_ref : OpR X (compareOp .Is) (fun x y H Q => ∃ a b oa ob, x = .ref a ∧ y = .ref b ∧ H a = some oa ∧ isObj oa = true ∧ H b = some ob ∧ isObj ob = true ∧ Q (.bl (decide (a = b))) H) := by
  intro pins s σ H x y v u Q I rx ry h
  obtain ⟨a, b, oa, ob, rfl, rfl, ha, pa, hb, pb, q⟩ := h
  cases rx
  cases ry
  obtain ⟨o1, e1, n1⟩ := obj_there I ha pa
  obtain ⟨o2, e2, _⟩ := obj_there I hb pb
  by_cases z : a = b
  · subst z
    exact wpAny_is_ref_self (fin_bl I q (by simp))
  · exact wpAny_is_ref_other z e1 e2 n1 (fin_bl I q (by simp [z]))
theorem op_isnot_ref : OpR X (compareOp .IsNot) (fun x y H Q => ∃ a b oa ob, x = .ref a ∧ y = .ref b ∧ H a = some oa ∧ isObj oa = true ∧ H b = some ob ∧ isObj ob = true ∧ Q (.bl (!decide (a = b))) H) := by
  intro pins s σ H x y v u Q I rx ry h
  obtain ⟨a, b, oa, ob, rfl, rfl, ha, pa, hb, pb, q⟩ := h
  cases rx
  cases ry
  obtain ⟨o1, e1, n1⟩ := obj_there I ha pa
  obtain ⟨o2, e2, _⟩ := obj_there I hb pb
  by_cases z : a = b
  · subst z
    exact wpAny_isNot_ref_self (fin_bl I q (by simp))
  · exact wpAny_isNot_ref_other z e1 e2 n1 (fin_bl I q (by simp [z]))

/-- two rules for one operation: by cases -/
theorem OpR.or {f : Value → Value → Sem Value} {r r' : R2} (h : OpR X f r) (h' : OpR X f r') : OpR X f (fun x y H Q => r x y H Q ∨ r' x y H Q) := by
  intro pins s σ H x y v u Q I rx ry q
  rcases q with q | q
  · exact h pins s σ H x y v u Q I rx ry q
  · exact h' pins s σ H x y v u Q I rx ry q

theorem nomark (b : Expr) {op : CmpOp} (h : op ≠ .In := by decide) (h2 : op ≠ .NotIn := by decide) : behindInMarks op b = false := by
  have e1 : (op == CmpOp.In) = false := by cases op <;> first | rfl | exact absurd rfl h
  have e2 : (op == CmpOp.NotIn) = false := by cases op <;> first | rfl | exact absurd rfl h2
  cases b <;> simp [behindInMarks, e1, e2]
/-- a comparison as a value; hm: nomark b, or (for in, not in) by with_unfolding_all rfl -/
theorem pe_cmpR {op : CmpOp} {r : R2} (ho : OpR X (compareOp op) r) (ha : PE X a ta) (hb : PE X b tb) (hm : behindInMarks op b = false) : PE X (.Compare a [op] [b] pos) (tOp r ta tb) := by
  intro pins s σ H Q I h
  exact wpAny_Compare1 (binT ha hb I h fun v u s2 x y H2 I2 rx ry q => ho pins s2 σ H2 x y v u Q I2 rx ry q) hm
/-- a reading of a value as a test -/
def tTest (t : TE) : TT := fun σ H Q => t σ H fun x H' => ∃ k, x = .bl k ∧ Q k H'
theorem pt_cmpR {op : CmpOp} {r : R2} (ho : OpR X (compareOp op) r) (ha : PE X a ta) (hb : PE X b tb) (hm : behindInMarks op b = false) : PT X (.Compare a [op] [b] pos) (tTest (tOp r ta tb)) := by
  intro pins s σ H Q I h
  refine wpAny_isTrue_Compare1 (thn (ha pins s σ H _ I h) fun v s1 ⟨x, H1, I1, r1, q1⟩ => thn (hb pins s1 σ H1 _ I1 q1) fun u s2 ⟨y, H2, I2, r2, q2⟩ =>
    thn (ho pins s2 σ H2 x y v u _ I2 r1 r2 q2) fun c s3 ⟨z, H3, I3, r3, k, e, q3⟩ => ?_) hm
  subst e
  cases r3
  exact wpAny_truthy_bool ⟨H3, I3, q3⟩
/-- a op1 b op2 c -/
def tChain (r r' : R2) (ta tb tc : TE) : TE := fun σ H Q => ta σ H fun x H1 => tb σ H1 fun y H2 => r x y H2 fun z H3 => ∃ k, z = .bl k ∧
  (if k = true then tc σ H3 fun w' H4 => r' y w' H4 Q else Q (.bl false) H3)
theorem pe_chain {op op' : CmpOp} {r r' : R2} (ho : OpR X (compareOp op) r) (ho' : OpR X (compareOp op') r') (ha : PE X a ta) (hb : PE X b tb) (hc : PE X c tc)
    (hm : lastMarks [op, op'] [b, c] = false := by with_unfolding_all rfl) : PE X (.Compare a [op, op'] [b, c] pos) (tChain r r' ta tb tc) := by
  intro pins s σ H Q I h
  refine Compare_chain (thn (ha pins s σ H _ I h) fun v s1 ⟨x, H1, I1, r1, q1⟩ => chain_link (thn (hb pins s1 σ H1 _ I1 q1) fun u s2 ⟨y, H2, I2, r2, q2⟩ =>
    thn (ho pins s2 σ H2 x y v u _ I2 r1 r2 q2) fun d s3 ⟨z, H3, I3, r3, k, e, q3⟩ => ?_)) hm
  subst e
  cases r3
  refine wpAny_truthy_bool ?_
  cases k with
  | false => exact ite_ff ⟨.bl false, H3, I3, rfl, q3⟩
  | true => exact ite_tt (chain_last (thn (hc pins s3 σ H3 _ I3 q3) fun w' s4 ⟨z', H4, I4, r4, q4⟩ => ho' pins s4 σ H4 y z' u w' Q I4 r2 r4 q4))
theorem pt_chain {op op' : CmpOp} {r r' : R2} (ho : OpR X (compareOp op) r) (ho' : OpR X (compareOp op') r') (ha : PE X a ta) (hb : PE X b tb) (hc : PE X c tc)
    (hm : lastMarks [op, op'] [b, c] = false := by with_unfolding_all rfl) : PT X (.Compare a [op, op'] [b, c] pos) (tTest (tChain r r' ta tb tc)) := by
  intro pins s σ H Q I h
  refine isTrue_chain (thn (ha pins s σ H _ I h) fun v s1 ⟨x, H1, I1, r1, q1⟩ => test_link (thn (hb pins s1 σ H1 _ I1 q1) fun u s2 ⟨y, H2, I2, r2, q2⟩ =>
    thn (ho pins s2 σ H2 x y v u _ I2 r1 r2 q2) fun d s3 ⟨z, H3, I3, r3, k, e, q3⟩ => ?_)) hm
  subst e
  cases r3
  refine wpAny_truthy_bool ?_
  cases k with
  | false =>
    obtain ⟨k', e', q'⟩ := q3
    cases e'
    exact ite_ff ⟨H3, I3, q'⟩
  | true =>
    refine ite_tt (test_last (thn (hc pins s3 σ H3 _ I3 q3) fun w' s4 ⟨z', H4, I4, r4, q4⟩ => thn (ho' pins s4 σ H4 y z' u w' _ I4 r2 r4 q4) fun d' s5 ⟨z2, H5, I5, r5, k2, e2, q5⟩ => ?_))
    subst e2
    cases r5
    exact wpAny_truthy_bool ⟨H5, I5, q5⟩

/-! ### truth -/
/-- a value's truth by the abstract heap -/
def TruV (K : PySem.W.Frag) (x : V) (H : Hp) (k : Bool) : Prop :=
  match x with
  | .non => k = false
  | .bl b => k = b
  | .int i => k = (i != 0)
  | .str y => y.length ≤ sizeLine ∧ k = ((y.length : Int) != 0)
  | .byt y => y.size ≤ sizeLine ∧ k = ((y.size : Int) != 0)
  | .ref p => (∃ xs, SqL K H p xs ∧ k = !xs.isEmpty) ∨ (∃ xs, SqT K H p xs ∧ k = !xs.isEmpty) ∨ ∃ kvs, H p = some (.dK kvs) ∧ k = !kvs.isEmpty
  | _ => False
theorem isEmpty_kv {κ : Type} {kvs : List (κ × V)} {vs : List (κ × Value)} (r : KV kvs vs) : (!vs.isEmpty) = !kvs.isEmpty := by
  cases r <;> rfl
theorem isEmpty_of {xs : List V} {its : List Value} (r : Vals xs its) : (!its.toArray.isEmpty) = !xs.isEmpty := by
  cases r <;> simp
theorem line63 : (sizeLine : Nat) < 2 ^ 63 := by rw [sizeLine_eq]; decide
theorem tru_ok : TruR X (fun x H Q => ∃ k, TruV X.K x H k ∧ Q k H) := by
  intro pins s σ H x v Q I rx h
  obtain ⟨k, e, q⟩ := h
  have hl := line63
  have hs : sizeLine = 16777216 := sizeLine_eq
  cases x with
  | non =>
    cases rx
    have e' : k = false := e
    subst e'
    exact truthy_none ⟨H, I, q⟩
  | bl b =>
    cases rx
    have e' : k = b := e
    subst e'
    exact wpAny_truthy_bool ⟨H, I, q⟩
  | int i =>
    obtain ⟨t, rfl⟩ := rx
    have e' : k = (i != 0) := e
    subst e'
    exact PySem.P.truthy_int ⟨H, I, q⟩
  | str y =>
    obtain ⟨t, rfl⟩ := rx
    obtain ⟨hy, e'⟩ : y.length ≤ sizeLine ∧ k = ((y.length : Int) != 0) := e
    subst e'
    exact PySem.P.truthy_str (by omega) ⟨H, I.tok _, q⟩
  | byt y =>
    obtain ⟨t, rfl⟩ := rx
    obtain ⟨hy, e'⟩ : y.size ≤ sizeLine ∧ k = ((y.size : Int) != 0) := e
    subst e'
    exact PySem.W.truthy_bytes (by omega) ⟨H, I.tok _, q⟩
  | ref p =>
    cases rx
    have e' : (∃ xs, SqL X.K H p xs ∧ k = !xs.isEmpty) ∨ (∃ xs, SqT X.K H p xs ∧ k = !xs.isEmpty) ∨ ∃ kvs, H p = some (.dK kvs) ∧ k = !kvs.isEmpty := e
    rcases e' with ⟨xs, hx, e'⟩ | ⟨xs, hx, e'⟩ | ⟨kvs, hx, e'⟩
    · subst e'
      obtain ⟨its, r, pl, hz⟩ := I.list hx
      have hlen := r.length
      exact wpAny_truthy_list pl.isList (by simp only [List.size_toArray]; omega) ⟨H, I.tok _, by rw [isEmpty_of r]; exact q⟩
    · subst e'
      obtain ⟨its, r, pl, hz⟩ := I.tuple hx
      have hlen := r.length
      exact truthy_tuple pl (by simp only [List.size_toArray]; omega) ⟨H, I.tok _, by rw [isEmpty_of r]; exact q⟩
    · subst e'
      obtain ⟨hz, hS, vs, r, m⟩ : kvs.length ≤ sizeLine ∧ (p == sysModules) = false ∧ ∃ vs, KV kvs vs ∧ s.heap.DictOf (mixKind X.prog X.w) p vs := I.hok p _ hx
      have hlen : kvs.length = vs.length := Paired.length r
      exact wpAny_truthy_dict hS m (by omega) ⟨H, I.tok _, by rw [isEmpty_kv r]; exact q⟩
  | _ => exact (show False from e).elim
/-- any expression whose test is its value's truth (a name, a call, a subscript, a field ..: he by fun _ => rfl) -/
theorem pt_truth (ha : PE X a ta) (he : ∀ whole, isTrue a X.env whole = (do let v ← whole; standAt a.pos; holding [v] (truthy v))) :
    PT X a (fun σ H Q => ta σ H fun x H' => ∃ k, TruV X.K x H' k ∧ Q k H') := by
  intro pins s σ H Q I h
  exact isTrue_plain (thn (ha pins s σ H _ I h) fun v s1 ⟨x, H1, I1, r1, q1⟩ => tru_ok pins s1 σ H1 x v Q I1 r1 q1) (he _)

/-! ### strs and bytes -/
theorem pe_byt {x : List UInt8} {k : Nat} : PE X (.Constant (.bytes x) k pos) (fun _ H Q => Q (.byt x.toArray) H) := fun _ _ _ H _ I h => PySem.W.Constant_bytes ⟨.byt x.toArray, H, I.tok _, ⟨_, rfl⟩, h⟩
theorem op_add_str : OpR X (binaryOp .Add) (fun x y H Q => ∃ i j, x = .str i ∧ y = .str j ∧ i.length + j.length ≤ sizeLine ∧ Q (.str (i ++ j)) H) := by
  intro pins s σ H x y v u Q I rx ry h
  obtain ⟨i, j, rfl, rfl, hz, q⟩ := h
  obtain ⟨t, rfl⟩ := rx
  obtain ⟨t', rfl⟩ := ry
  exact add_str (fun t' tk => ⟨.str (i ++ j), H, I.tok _, ⟨_, rfl⟩, q⟩) hz
theorem iop_add_str : OpR X (inplaceOp .Add) (fun x y H Q => ∃ i j, x = .str i ∧ y = .str j ∧ i.length + j.length ≤ sizeLine ∧ Q (.str (i ++ j)) H) := by
  intro pins s σ H x y v u Q I rx ry h
  obtain ⟨i, j, rfl, rfl, hz, q⟩ := h
  obtain ⟨t, rfl⟩ := rx
  obtain ⟨t', rfl⟩ := ry
  exact iadd_str (fun t' tk => ⟨.str (i ++ j), H, I.tok _, ⟨_, rfl⟩, q⟩) hz
theorem op_add_byt : OpR X (binaryOp .Add) (fun x y H Q => ∃ i j, x = .byt i ∧ y = .byt j ∧ i.size + j.size ≤ 16777216 ∧ Q (.byt (i ++ j)) H) := by
  intro pins s σ H x y v u Q I rx ry h
  obtain ⟨i, j, rfl, rfl, hz, q⟩ := h
  obtain ⟨t, rfl⟩ := rx
  obtain ⟨t', rfl⟩ := ry
  exact PySem.W.KBy.add_bytes hz (fun t' tk => ⟨.byt (i ++ j), H, I.tok _, ⟨_, rfl⟩, q⟩)

def PlainIxT (b : Expr) : Prop := ∀ o i, subscripted b false o i = operate [o, i] (getItem o i)
/-- s[i], 0 ≤ i < len -/
theorem pe_item_str (ha : PE X a ta) (hb : PE X b tb) (hs : PlainIxT b) :
    PE X (.Subscript a b pos) (tOp (fun x y H Q => ∃ z i c, x = .str z ∧ y = .int i ∧ 0 ≤ i ∧ i < 2 ^ 63 ∧ i < z.length ∧ z.cps[i.toNat]? = some c ∧ Q (.str ⟨#[c]⟩) H) ta tb) := by
  intro pins s σ H Q I h
  refine Subscript_ (binT ha hb I h fun v u s2 x y H2 I2 rx ry q => ?_)
  obtain ⟨z, i, c, rfl, rfl, h0, h63, h1, hc, q⟩ := q
  obtain ⟨t, rfl⟩ := rx
  obtain ⟨t', rfl⟩ := ry
  have e : seqIndex? i z.length = some i.toNat := PySem.StrLaws.seqIndex_nonneg h0 h1
  exact tail_any (typeIs_str s2 z t) slot_str_getitem.lookup (getItem_str (c := c) (by
    have e1 : decide (i < -(2 ^ 63 : Int)) = false := decide_eq_false (by omega)
    have e2 : decide (i ≥ 2 ^ 63) = false := decide_eq_false (by omega)
    rw [e1, e2] <;> rfl) (by rw [e]; exact hc) ⟨.str ⟨#[c]⟩, H2, I2.tok _, ⟨_, rfl⟩, q⟩) (hs _ _)
/-- b[i], 0 ≤ i < len -/
theorem pe_item_byt (ha : PE X a ta) (hb : PE X b tb) (hs : PlainIxT b) :
    PE X (.Subscript a b pos) (tOp (fun x y H Q => ∃ (z : List UInt8) (i : Int), x = .byt z.toArray ∧ y = .int i ∧ z.length ≤ sizeLine ∧ 0 ≤ i ∧ i < z.length ∧ Q (.int ((z.getD i.toNat 0).toNat : Nat)) H) ta tb) := by
  intro pins s σ H Q I h
  refine Subscript_ (binT ha hb I h fun v u s2 x y H2 I2 rx ry q => ?_)
  obtain ⟨z, i, rfl, rfl, hz, h0, h1, q⟩ := q
  obtain ⟨t, rfl⟩ := rx
  obtain ⟨t', rfl⟩ := ry
  have hl : sizeLine = 16777216 := sizeLine_eq
  exact tail_any (PySem.W.typeIs_bytes s2 z.toArray t) PySem.W.FB.slot_bytes_getitem.lookup (PySem.W.getItem_bytes (by omega) h0 h1 ⟨.int ((z.getD i.toNat 0).toNat : Nat), H2, I2.tok _, ⟨_, rfl⟩, q⟩) (hs _ _)

/-! ### scalar builtins, by CallR -/
theorem vals1 {x : V} {us : List Value} (r : Vals [x] us) : ∃ u, us = [u] ∧ RelV x u := by
  cases r with
  | cons r1 r2 => cases r2; exact ⟨_, rfl, r1⟩
theorem vals2 {x y : V} {us : List Value} (r : Vals [x, y] us) : ∃ u w', us = [u, w'] ∧ RelV x u ∧ RelV y w' := by
  cases r with
  | cons r1 r2 =>
    cases r2 with
    | cons r3 r4 => cases r4; exact ⟨_, _, rfl, r1, r3⟩
theorem call_abs : CallR X (.builtin "abs") (fun xs H Q => ∃ i, xs = [.int i] ∧ Q (.int (if i < 0 then -i else i)) H) := by
  intro pins s σ H xs us Q I r h
  obtain ⟨i, rfl, q⟩ := h
  obtain ⟨u, rfl, t, rfl⟩ := vals1 r
  exact call_abs_int fun u tk => ⟨.int (if i < 0 then -i else i), H, I.tok _, ⟨_, rfl⟩, q⟩
theorem call_max2 (hc : X.calm = true) : CallR X (.builtin "max") (fun xs H Q => ∃ i j, xs = [.int i, .int j] ∧ Q (.int (if j > i then j else i)) H) := by
  intro pins s σ H xs us Q I r h
  obtain ⟨i, j, rfl, q⟩ := h
  obtain ⟨u, w', rfl, ⟨t, rfl⟩, ⟨t', rfl⟩⟩ := vals2 r
  refine max_two_ints (I.ok.hd hc) fun h' tk k => ⟨_, H, I.kept k, ?_, q⟩
  by_cases hj : j > i
  · rw [if_pos hj, if_pos hj]; exact ⟨_, rfl⟩
  · rw [if_neg hj, if_neg hj]; exact ⟨_, rfl⟩
theorem call_min2 (hc : X.calm = true) : CallR X (.builtin "min") (fun xs H Q => ∃ i j, xs = [.int i, .int j] ∧ Q (.int (if j < i then j else i)) H) := by
  intro pins s σ H xs us Q I r h
  obtain ⟨i, j, rfl, q⟩ := h
  obtain ⟨u, w', rfl, ⟨t, rfl⟩, ⟨t', rfl⟩⟩ := vals2 r
  refine min_two_ints (I.ok.hd hc) fun h' tk k => ⟨_, H, I.kept k, ?_, q⟩
  by_cases hj : j < i
  · rw [if_pos hj, if_pos hj]; exact ⟨_, rfl⟩
  · rw [if_neg hj, if_neg hj]; exact ⟨_, rfl⟩
theorem call_int1 : CallR X (.type "int") (fun xs H Q => (∃ i, xs = [.int i] ∧ Q (.int i) H) ∨ ∃ k, xs = [.bl k] ∧ Q (.int (if k then 1 else 0)) H) := by
  intro pins s σ H xs us Q I r h
  rcases h with ⟨i, rfl, q⟩ | ⟨k, rfl, q⟩
  · obtain ⟨u, rfl, t, rfl⟩ := vals1 r
    exact call_int_int ⟨.int i, H, I, ⟨_, rfl⟩, q⟩
  · obtain ⟨u, rfl, r1⟩ := vals1 r
    cases r1
    exact call_int_bool ⟨.int (if k then 1 else 0), H, I.tok _, ⟨_, rfl⟩, q⟩
theorem call_bool1 : CallR X (.type "bool") (fun xs H Q => (∃ i, xs = [.int i] ∧ Q (.bl (i != 0)) H) ∨ ∃ k, xs = [.bl k] ∧ Q (.bl k) H) := by
  intro pins s σ H xs us Q I r h
  rcases h with ⟨i, rfl, q⟩ | ⟨k, rfl, q⟩
  · obtain ⟨u, rfl, t, rfl⟩ := vals1 r
    exact call_bool_int ⟨.bl (i != 0), H, I, rfl, q⟩
  · obtain ⟨u, rfl, r1⟩ := vals1 r
    cases r1
    exact call_bool_bool ⟨.bl k, H, I, rfl, q⟩
theorem call_str_int : CallR X (.type "str") (fun xs H Q => ∃ i, xs = [.int i] ∧ i.natAbs.log2 < 1920 ∧ Q (.str (toString i)) H) := by
  intro pins s σ H xs us Q I r h
  obtain ⟨i, rfl, hz, q⟩ := h
  obtain ⟨u, rfl, t, rfl⟩ := vals1 r
  exact PySem.P.str_of_int hz ⟨.str _, H, I.tok _, ⟨_, rfl⟩, q⟩
theorem call_ord : CallR X (.builtin "ord") (fun xs H Q => ∃ x, xs = [.str x] ∧ x.length = 1 ∧ Q (.int (x.cps.getD 0 0 : Nat)) H) := by
  intro pins s σ H xs us Q I r h
  obtain ⟨x, rfl, hz, q⟩ := h
  obtain ⟨u, rfl, t, rfl⟩ := vals1 r
  exact ord_of_one hz ⟨.int _, H, I.tok _, ⟨_, rfl⟩, q⟩
theorem call_chr : CallR X (.builtin "chr") (fun xs H Q => ∃ i, xs = [.int i] ∧ 0 ≤ i ∧ i ≤ 1114111 ∧ Q (.str ⟨#[i.toNat]⟩) H) := by
  intro pins s σ H xs us Q I r h
  obtain ⟨i, rfl, h0, h1, q⟩ := h
  obtain ⟨u, rfl, t, rfl⟩ := vals1 r
  exact chr_of_range h0 h1 ⟨.str _, H, I.tok _, ⟨_, rfl⟩, q⟩
/-- len of a str, a bytes, a list, a tuple -/
def LenV (K : PySem.W.Frag) (x : V) (H : Hp) (n : Nat) : Prop :=
  match x with
  | .str y => y.length ≤ sizeLine ∧ n = y.length
  | .byt y => y.size ≤ sizeLine ∧ n = y.size
  | .ref p => (∃ xs, SqL K H p xs ∧ n = xs.length) ∨ ∃ xs, SqT K H p xs ∧ n = xs.length
  | _ => False
theorem call_len : CallR X (.builtin "len") (fun xs H Q => ∃ x n, xs = [x] ∧ LenV X.K x H n ∧ Q (.int n) H) := by
  intro pins s σ H xs us Q I r h
  obtain ⟨x, n, rfl, e, q⟩ := h
  obtain ⟨u, rfl, rx⟩ := vals1 r
  have hl := line63
  have hs : sizeLine = 16777216 := sizeLine_eq
  cases x with
  | str y =>
    obtain ⟨t, rfl⟩ := rx
    obtain ⟨hy, e'⟩ : y.length ≤ sizeLine ∧ n = y.length := e
    subst e'
    exact len_str (by omega) ⟨.int _, H, I.tok _, ⟨_, rfl⟩, q⟩
  | byt y =>
    obtain ⟨t, rfl⟩ := rx
    obtain ⟨hy, e'⟩ : y.size ≤ sizeLine ∧ n = y.size := e
    subst e'
    exact PySem.W.len_bytes (by omega) ⟨.int _, H, I.tok _, ⟨_, rfl⟩, q⟩
  | ref p =>
    cases rx
    have e' : (∃ xs, SqL X.K H p xs ∧ n = xs.length) ∨ ∃ xs, SqT X.K H p xs ∧ n = xs.length := e
    rcases e' with ⟨xs, hx, e'⟩ | ⟨xs, hx, e'⟩
    · subst e'
      obtain ⟨its, r', pl, hz⟩ := I.list hx
      have hlen := r'.length
      exact Calls.call_len_list pl.isList (by simp only [List.size_toArray]; omega) ⟨.int xs.length, H, I.tok _, ⟨_, by simp only [List.size_toArray]; rw [hlen]⟩, q⟩
    · subst e'
      obtain ⟨its, r', pl, hz⟩ := I.tuple hx
      have hlen := r'.length
      exact len_tuple pl (by simp only [List.size_toArray]; omega) ⟨.int xs.length, H, I.tok _, ⟨_, by simp only [List.size_toArray]; rw [hlen]⟩, q⟩
  | _ => exact (show False from e).elim
/-- divmod: a new tuple -/
theorem call_divmod : CallR X (.builtin "divmod") (fun xs H Q => ∃ i j, xs = [.int i, .int j] ∧ CDiv i j ∧ ∀ p, H p = none → Q (.ref p) (upd H p (.tup [.int (i / j), .int (i % j)]))) := by
  intro pins s σ H xs us Q I r h
  obtain ⟨i, j, rfl, ⟨h1, h2⟩, q⟩ := h
  obtain ⟨u, w', rfl, ⟨t, rfl⟩, ⟨t', rfl⟩⟩ := vals2 r
  refine divmod_int (by omega) ?_ (.inl (PyProof.noPylong_small (by omega)))
  rw [Int.fdiv_eq_ediv_of_nonneg i (by omega), Int.fmod_eq_emod_of_nonneg i (by omega)]
  have hn : H s.heap.objs.size = none := I.hok.fresh (Nat.le_refl _)
  refine ⟨.ref s.heap.objs.size, _, ?_, rfl, q _ hn⟩
  refine I.laid (fun b o e => Heap.get?_push_of_some _ e) (Nat.le_refl _) ⟨by simp only [List.length_cons, List.length_nil]; rw [sizeLine_eq]; decide, [.int (i / j) s.toks, .int (i % j) (s.toks + 1)], .cons ⟨_, rfl⟩ (.cons ⟨_, rfl⟩ .nil), ?_⟩
  exact ⟨_, Heap.get?_push_size s.heap rfl, rfl, 0, rfl⟩
end
end L2

namespace L2
open PySem PySem.Spec PyProof.Rows

/-! ### an instance, its attributes a map -/
structure ObjM (h : Heap) (x dx C : Addr) (mA : Str → Option Value) : Prop where
  obj : h.get? x = some (PySem.W.instObj C dx)
  ns : h.Ns1 dx mA
  ne : dx ≠ x

theorem lookIn_ns {h : Heap} {dx : Addr} {mA : Str → Option Value} (n : h.Ns1 dx mA) : ∃ od, h.get? dx = some od ∧ ∀ name, PySem.W.lookIn name od = some (mA name) := by
  obtain ⟨o, es, ep, ho, hd, hk, _, hm⟩ := n
  refine ⟨o, ho, fun name => ?_⟩
  have e := hm name
  unfold nsFind findBy at e
  rw [← Array.find?_toList] at e
  unfold PySem.W.lookIn
  rw [hd]
  dsimp only
  split
  · rename_i y q
    rw [q] at e
    exact congrArg some e
  · rename_i q
    rw [q] at e
    have a : es.toList.any (·.refKey) = false := by
      rw [List.any_eq_false]
      intro y hy
      obtain ⟨z, t, hkey⟩ := hk y (Array.mem_toList_iff.mp hy)
      simp [DictEntry.refKey, hkey]
    have a' : ¬ es.toList.any (·.refKey) = true := by rw [a]; exact Bool.false_ne_true
    rw [if_neg a']
    exact congrArg some e

theorem ObjM.look {h : Heap} {x dx C : Addr} {mA : Str → Option Value} (I : ObjM h x dx C mA) : ∃ od, PySem.W.InstAt h x (PySem.W.instObj C dx) C (some od) ∧ ∀ name, PySem.W.lookIn name od = some (mA name) :=
  let ⟨od, ho, hl⟩ := lookIn_ns I.ns
  ⟨od, ⟨I.obj, rfl, rfl, ho⟩, hl⟩

section
variable {prog : Program} {w : World} {A : Around} {E : Value → Shared → Prop} {s : Shared} {K : PySem.W.Frag} {x dx C f : Addr} {mA : Str → Option Value} {name : Str} {v : Value}

theorem get_map {expr : Bool} {Q : Value → Shared → Prop} (X : K.In s.heap) (I : ObjM s.heap x dx C mA) (hg : PySem.W.plainGet K C name = true) (hh : PySem.W.hasDictIn K C = true)
    (ha : PySem.W.findIn K (.ref C) name = some none) (hv : mA name = some v) (hv' : PySem.W.handedIn v = true) (h : Q v { s with toks := s.toks + 1 }) :
    wpAny (model prog w) A (getAttr (.ref x) name expr) Q E s := by
  obtain ⟨od, J, hl⟩ := I.look
  exact PySem.W.get_value X J (PySem.W.plainGet_of hg).1 (PySem.W.findObj_own hh ha rfl (by rw [hl, hv])) hv' h

theorem get_const {expr : Bool} {a : Value} {Q : Value → Shared → Prop} (X : K.In s.heap) (I : ObjM s.heap x dx C mA) (hg : PySem.W.plainGet K C name = true) (hh : PySem.W.hasDictIn K C = true)
    (ha : PySem.W.findIn K (.ref C) name = some (some a)) (hn : PySem.W.specialIn K a "__get__" = some none) (hc : PySem.W.copiedNames.contains name = false) (hv : mA name = none) (hv' : PySem.W.handedIn a = true)
    (h : Q a { s with toks := s.toks + 1 }) : wpAny (model prog w) A (getAttr (.ref x) name expr) Q E s := by
  obtain ⟨od, J, hl⟩ := I.look
  exact PySem.W.get_value X J (PySem.W.plainGet_of hg).1 (PySem.W.findObj_cls hh ha hn hv' hc (by rw [hl, hv])) hv' h

theorem get_meth {pl : Sem Bool} {Q : Value × List Value → Shared → Prop} (X : K.In s.heap) (I : ObjM s.heap x dx C mA) (hg : PySem.W.plainGet K C name = true)
    (hf : PySem.W.findIn K (.ref C) name = some (some (.ref f))) (ht : PySem.W.isFn K (.ref f) = true) (hv : mA name = none) (h : Q (.ref f, [.ref x]) s) :
    wpAny (model prog w) A (getMethod (.ref x) name pl) Q E s := by
  obtain ⟨od, J, hl⟩ := I.look
  exact PySem.W.method_fn X J (PySem.W.plainGet_of hg).1 (PySem.W.plainGet_of hg).2 hf (beq_iff_eq.mp ht) (by show (PySem.W.lookIn name od).map (·.isSome) = some false; rw [hl, hv]; rfl) h

theorem set_map {ns : List Str} {Q : Unit → Shared → Prop} (X : K.In s.heap) (I : ObjM s.heap x dx C mA)
    (hs : PySem.W.findIn K (.ref C) "__setattr__" = some (some (.builtin "object.__setattr__"))) (hp : PySem.W.plainOver K C = true) (ht : PySem.W.takerIn K C name = some none) (hh : PySem.W.hasDictIn K C = true)
    (hw : PySem.Within mA ns) (hsz : ns.length ≤ sizeLine)
    (h : ∀ h', ObjM h' x dx C (fun y => if y = name then some v else mA y) → Heap.SameBut dx s.heap h' → Q () { s with heap := h', toks := s.toks + 2 }) :
    wpAny (model prog w) A (setAttr (.ref x) name v) Q E s := by
  obtain ⟨od, J, hl⟩ := I.look
  refine PySem.W.set_plain X J hs (PySem.W.osa_open (s := { s with toks := s.toks + 1 }) (r := none) X J hp ht fun b => ?_)
  obtain ⟨cd, hc, hd'⟩ := PySem.W.any_some hh
  have hx : s.heap.get? x = some ⟨.ref C, some dx, .plain, #[]⟩ := I.obj
  refine wpAny_bind (wpAny_pure (wpAny_bind (wpAny_bind (wpAny_loadPart hx (wpAny_bind (PySem.W.Looks.here (s := { s with toks := s.toks + 1 }) (PySem.W.looks_clsIn X hc) ?_))))))
  rw [hd']
  refine wpAny_pure (a := some dx) (wpAny_bind (wpAny_pure (wpAny_bind ?_)))
  refine wpAny_nsSet1 (s := { s with toks := s.toks + 1 }) I.ns fun h' hn2 hs2 => ?_
  obtain ⟨oD, esD, epD, hoD, hdD, hcD⟩ := hn2.count (PySem.Within.cons name v hw)
  refine wpAny_bind (wpAny_lookBehind hoD (by rw [hdD]; exact pastItsLine_dict (Nat.le_trans hcD (by rw [List.length_cons]; omega))) ?_)
  exact wpAny_pure (h _ ⟨(hs2.2 _ (Ne.symm I.ne)).trans I.obj, hn2, I.ne⟩ hs2)

/-- C(..): the dict at the heap's end, the instance behind it; then its __init__ -/
theorem make_map {R : Result → Shared → Prop} {vs : List Value} {kw : List (Str × Value)} (X : K.In s.heap) (hm : PySem.W.makesIn K C = true)
    (hi : PySem.W.findIn K (.ref C) "__init__" = some (some (.ref f))) (hf : PySem.W.typeIn K (.ref f) = some (.type "function"))
    (h : codeAny (model prog w) (A.under (.builtin "type.__call__" ⟨.ref C :: vs, kw⟩)) (.call (.ref f) ⟨.ref (s.heap.objs.size + 1) :: vs, kw⟩) (PySem.W.InitBack (s.heap.objs.size + 1) R)
      { s with heap := (s.heap.push PySem.W.emptyDict).push (PySem.W.instObj C s.heap.objs.size) }) :
    codeAny (model prog w) A (.call (.ref C) ⟨vs, kw⟩) R s := by
  obtain ⟨hh, g, d, t, os⟩ := s
  exact PySem.W.make_core (PySem.W.makes_of X hm) (PySem.W.looks_findIn X hi) (fun self => PySem.W.bind_fn X self hf) (.inl rfl) h
/-- C() where there is no __init__ but object's -/
theorem make_map0 {R : Result → Shared → Prop} (X : K.In s.heap) (hm : PySem.W.makesIn K C = true)
    (hi : PySem.W.findIn K (.ref C) "__init__" = some (some (.builtin "object.__init__")))
    (hb : ∀ self, PySem.W.Looks (model prog w) s.heap (bindSpecial (.builtin "object.__init__") self) (.builtin "object.__init__", [self]))
    (h : codeAny (model prog w) (A.under (.builtin "type.__call__" ⟨[.ref C], []⟩)) (.call (.builtin "object.__init__") ⟨[.ref (s.heap.objs.size + 1)], []⟩) (PySem.W.InitBack (s.heap.objs.size + 1) R)
      { s with heap := (s.heap.push PySem.W.emptyDict).push (PySem.W.instObj C s.heap.objs.size) }) :
    codeAny (model prog w) A (.call (.ref C) ⟨[], []⟩) R s := by
  obtain ⟨hh, g, d, t, os⟩ := s
  exact PySem.W.make_core (PySem.W.makes_of X hm) (PySem.W.looks_findIn X hi) hb (.inr ⟨rfl, rfl⟩) h
end

/-! ### the attributes as a list of pairs -/
def putF (f : Str) (v : V) : List (Str × V) → List (Str × V)
  | [] => [(f, v)]
  | (g, x) :: r => if g = f then (g, v) :: r else (g, x) :: putF f v r
theorem lookup_putF (f g : Str) (v : V) : ∀ fs : List (Str × V), (putF f v fs).lookup g = if g = f then some v else fs.lookup g
  | [] => by
    show List.lookup g [(f, v)] = _
    by_cases h : g = f
    · have hb : (g == f) = true := beq_iff_eq.mpr h
      simp only [List.lookup, hb, if_pos h]
    · have hb : (g == f) = false := beq_eq_false_iff_ne.mpr h
      simp only [List.lookup, hb, if_neg h]
  | (k, x) :: r => by
    have ih := lookup_putF f g v r
    rw [show putF f v ((k, x) :: r) = (if k = f then (k, v) :: r else (k, x) :: putF f v r) from rfl]
    by_cases hk : k = f
    · rw [if_pos hk]
      by_cases h : g = k
      · have hb : (g == k) = true := beq_iff_eq.mpr h
        simp only [List.lookup, hb, if_pos (h.trans hk)]
      · have hb : (g == k) = false := beq_eq_false_iff_ne.mpr h
        simp only [List.lookup, hb, if_neg (fun e : g = f => h (e.trans hk.symm))]
    · rw [if_neg hk]
      by_cases h : g = k
      · have hb : (g == k) = true := beq_iff_eq.mpr h
        simp only [List.lookup, hb, if_neg (fun e : g = f => hk (h.symm.trans e))]
      · have hb : (g == k) = false := beq_eq_false_iff_ne.mpr h
        simp only [List.lookup, hb]
        exact ih
theorem keys_putF (f : Str) (v : V) : ∀ fs : List (Str × V), f ∈ (putF f v fs).map (·.1) ∧ ∀ g, g ∈ fs.map (·.1) → g ∈ (putF f v fs).map (·.1)
  | [] => ⟨by simp [putF], fun g h => by simp at h⟩
  | (k, x) :: r => by
    obtain ⟨i1, i2⟩ := keys_putF f v r
    rw [show putF f v ((k, x) :: r) = (if k = f then (k, v) :: r else (k, x) :: putF f v r) from rfl]
    by_cases hk : k = f
    · rw [if_pos hk]
      subst hk
      exact ⟨by simp, fun g h => by simpa using h⟩
    · rw [if_neg hk]
      refine ⟨?_, fun g h => ?_⟩
      · rw [List.map_cons]
        exact List.mem_cons_of_mem _ i1
      · rw [List.map_cons] at h ⊢
        rcases List.mem_cons.mp h with e | e
        · exact List.mem_cons.mpr (.inl e)
        · exact List.mem_cons_of_mem _ (i2 g e)
theorem length_putF (f : Str) (v : V) : ∀ fs : List (Str × V), (putF f v fs).length ≤ fs.length + 1
  | [] => by simp [putF]
  | (k, x) :: r => by
    have ih := length_putF f v r
    rw [show putF f v ((k, x) :: r) = (if k = f then (k, v) :: r else (k, x) :: putF f v r) from rfl]
    by_cases hk : k = f
    · rw [if_pos hk, List.length_cons, List.length_cons]; omega
    · rw [if_neg hk, List.length_cons, List.length_cons]; omega

theorem RelO.some_of {v : V} {o : Option Value} (r : RelO (some v) o) : ∃ u, o = some u ∧ RelV v u := by
  cases o with
  | none => exact (show False from r).elim
  | some u => exact ⟨u, rfl, r⟩
theorem RelO.none_of {o : Option Value} (r : RelO none o) : o = none := by
  cases o with
  | none => rfl
  | some u => exact (show False from r).elim
theorem handed_of {v : V} {u : Value} (r : RelV v u) : PySem.W.handedIn u = true := by
  cases v with
  | non => cases (show u = Value.none from r); rfl
  | bl b => cases (show u = Value.bool b from r); rfl
  | int i => obtain ⟨t, e⟩ := (show ∃ t, u = Value.int i t from r); cases e; rfl
  | str x => obtain ⟨t, e⟩ := (show ∃ t, u = Value.str x t from r); cases e; rfl
  | byt b => obtain ⟨t, e⟩ := (show ∃ t, u = Value.bytes b t from r); cases e; rfl
  | flt b => obtain ⟨t, e⟩ := (show ∃ t, u = Value.float b t from r); cases e; rfl
  | ref a => cases (show u = Value.ref a from r); rfl
  | ty n => cases (show u = Value.type n from r); rfl

section
variable {P : Program} {w : World} {H H' : Hp} {h h' : Heap} {a C dx : Addr} {fs fs' : List (Str × V)}
theorem ins_get (hok : HOk P w H h) (e : H a = some (.ins C dx fs)) : ∃ mA, ObjM h a dx C mA ∧ (∀ f, RelO (fs.lookup f) (mA f)) ∧ PySem.Within mA (fs.map (·.1)) ∧ fs.length ≤ 1000 ∧ H dx = some (.own a) := by
  obtain ⟨d, z, ne, ob, mA, n, r, q⟩ := (show ObjOk P w H h a (.ins C dx fs) from hok a _ e)
  exact ⟨mA, ⟨ob, n, ne⟩, r, q, z, d⟩
end

/-! ### what of the text a class must have -/
structure Cls (K : PySem.W.Frag) (C : Addr) : Prop where
  pg : PySem.W.plainGet K C Str.empty = true
  hd : PySem.W.hasDictIn K C = true
  po : PySem.W.plainOver K C = true
  sa : PySem.W.findIn K (.ref C) "__setattr__" = some (some (.builtin "object.__setattr__"))
theorem Cls.get {K : PySem.W.Frag} {C : Addr} (c : Cls K C) (f : Str) : PySem.W.plainGet K C f = true := c.pg
/-- no class of it has the name -/
def NoAttr (K : PySem.W.Frag) (C : Addr) (f : Str) : Prop := PySem.W.findIn K (.ref C) f = some none
theorem NoAttr.taker {K : PySem.W.Frag} {C : Addr} {f : Str} (n : NoAttr K C f) : PySem.W.takerIn K C f = some none := by
  unfold PySem.W.takerIn
  rw [show PySem.W.findIn K (.ref C) f = some none from n]
  rfl
/-- a constant of the class -/
structure Con (K : PySem.W.Frag) (C : Addr) (f : Str) (v : V) (u : Value) : Prop where
  at_ : PySem.W.findIn K (.ref C) f = some (some u)
  rel : RelV v u
  get : PySem.W.specialIn K u "__get__" = some none
  cp : PySem.W.copiedNames.contains f = false
/-- a method: a plain def of the class or of one above it -/
structure Meth (K : PySem.W.Frag) (C : Addr) (m : Str) (f : Addr) : Prop where
  at_ : PySem.W.findIn K (.ref C) m = some (some (.ref f))
  fn : PySem.W.isFn K (.ref f) = true
  kp : PySem.W.keepIn K (.ref f) = true

section
variable {X : Cx} {pins : List (Addr × Obj)} {σ : St} {H : Hp} {s : Shared} {a C dx : Addr} {fs : List (Str × V)} {f : Str} {v : V} {A : Around} {E : Value → Shared → Prop}

theorem getattr_ok {b : Bool} {Q : Value → Shared → Prop} (I : Inv X pins σ H s) (e : H a = some (.ins C dx fs)) (c : Cls X.K C) (n : NoAttr X.K C f) (l : fs.lookup f = some v)
    (h : ∀ u s', Inv X pins σ H s' → RelV v u → Q u s') : wpAny (model X.prog X.w) A (getAttr (.ref a) f b) Q E s := by
  obtain ⟨mA, O, r, _, _, _⟩ := ins_get I.hok e
  obtain ⟨u, hu, ru⟩ := RelO.some_of (v := v) (o := mA f) (by rw [← l]; exact r f)
  exact get_map I.kIn O (c.get f) c.hd n hu (handed_of ru) (h u _ (I.tok _) ru)

theorem getcon_ok {b : Bool} {u : Value} {Q : Value → Shared → Prop} (I : Inv X pins σ H s) (e : H a = some (.ins C dx fs)) (c : Cls X.K C) (k : Con X.K C f v u) (l : fs.lookup f = none)
    (h : ∀ s', Inv X pins σ H s' → Q u s') : wpAny (model X.prog X.w) A (getAttr (.ref a) f b) Q E s := by
  obtain ⟨mA, O, r, _, _, _⟩ := ins_get I.hok e
  have hn : mA f = none := RelO.none_of (by rw [← l]; exact r f)
  exact get_const I.kIn O (c.get f) c.hd k.at_ k.get k.cp hn (handed_of k.rel) (h _ (I.tok _))

theorem getmeth_ok {m : Str} {g : Addr} {pl : Sem Bool} {Q : Value × List Value → Shared → Prop} (I : Inv X pins σ H s) (e : H a = some (.ins C dx fs)) (c : Cls X.K C) (k : Meth X.K C m g) (l : fs.lookup m = none)
    (h : Q (.ref g, [.ref a]) s) : wpAny (model X.prog X.w) A (getMethod (.ref a) m pl) Q E s := by
  obtain ⟨mA, O, r, _, _, _⟩ := ins_get I.hok e
  have hn : mA m = none := RelO.none_of (by rw [← l]; exact r m)
  exact get_meth I.kIn O (c.get m) k.at_ k.fn hn h

theorem setattr_ok {y : V} {u : Value} {Q : Unit → Shared → Prop} (I : Inv X pins σ H s) (e : H a = some (.ins C dx fs)) (c : Cls X.K C) (n : NoAttr X.K C f) (hl : fs.length < 1000) (ry : RelV y u)
    (h : ∀ s', Inv X pins σ (upd H a (.ins C dx (putF f y fs))) s' → Q () s') : wpAny (model X.prog X.w) A (setAttr (.ref a) f u) Q E s := by
  obtain ⟨mA, O, r, wi, _, ho⟩ := ins_get I.hok e
  have hz : (fs.map (·.1)).length ≤ sizeLine := by rw [List.length_map, sizeLine_eq]; omega
  refine set_map I.kIn O c.sa c.po n.taker c.hd wi hz fun h' O' sb => h _ ?_
  have hd : ∃ o, h'.get? dx = some o := let ⟨o, _, _, e', _⟩ := O'.ns; ⟨o, e'⟩
  refine I.write (x := a) (e := dx) (by rw [e]; exact True.intro) (.inr ho) (fun b q hb z => (sb.2 b hb).trans z) hd ?_
  refine ⟨by rw [upd_ne O.ne]; exact ho, ?_, O.ne, O'.obj, _, O'.ns, fun g => ?_, fun g hg => ?_⟩
  · have := length_putF f y fs; omega
  · show RelO ((putF f y fs).lookup g) (if g = f then some u else mA g)
    rw [lookup_putF]
    by_cases q : g = f
    · rw [if_pos q, if_pos q]; exact ry
    · rw [if_neg q, if_neg q]; exact r g
  · by_cases q : g = f
    · rw [q]; exact (keys_putF f y fs).1
    · refine (keys_putF f y fs).2 g (wi g fun z => hg ?_)
      show (if g = f then some u else mA g) = none
      rw [if_neg q]; exact z

/-- a new instance, tracked, without attributes -/
theorem Inv.made (I : Inv X pins σ H s) : Inv X pins σ (upd (upd H s.heap.objs.size (.own (s.heap.objs.size + 1))) (s.heap.objs.size + 1) (.ins C s.heap.objs.size []))
    { s with heap := (s.heap.push PySem.W.emptyDict).push (PySem.W.instObj C s.heap.objs.size) } := by
  have e1 : (s.heap.push PySem.W.emptyDict).get? s.heap.objs.size = some PySem.W.emptyDict := Heap.get?_push_size s.heap rfl
  have e2 : ((s.heap.push PySem.W.emptyDict).push (PySem.W.instObj C s.heap.objs.size)).get? (s.heap.objs.size + 1) = some (PySem.W.instObj C s.heap.objs.size) := by
    have := Heap.get?_push_size (s.heap.push PySem.W.emptyDict) (o := PySem.W.instObj C s.heap.objs.size) rfl
    rwa [Heap.size_push] at this
  have e3 : (s.heap.push PySem.W.emptyDict).Ns s.heap.objs.size (fun _ => none) := ⟨PySem.W.emptyDict, #[], _, e1, rfl, (fun e he => absurd he (by simp)), fun _ => rfl⟩
  have I1 := I.laid (a := s.heap.objs.size) (o := .own (s.heap.objs.size + 1)) (h' := s.heap.push PySem.W.emptyDict) (t' := s.toks) (fun b u q => Heap.get?_push_of_some _ q) (Nat.le_refl _) ⟨_, e1⟩
  refine I1.laid (a := s.heap.objs.size + 1) (o := .ins C s.heap.objs.size []) (t' := s.toks) (fun b u q => Heap.get?_push_of_some _ q) (Nat.le_of_eq (Heap.size_push _ _)) ?_
  have ne : s.heap.objs.size ≠ s.heap.objs.size + 1 := Nat.ne_of_lt (Nat.lt_succ_self _)
  refine ⟨by rw [upd_ne ne, upd_same], Nat.zero_le _, ne, e2, fun _ => none, (Heap.Ns1.of_empty e3).at fun o q => Heap.get?_push_of_some _ q, fun _ => True.intro, fun y hy => absurd rfl hy⟩

/-- e.f where nothing but the object is asked: through attributeBase (super) and the last hold -/
theorem attr_of {prog : Program} {w : World} {env : Env} {e : Expr} {f : Str} {pos : Pos} {s : Shared} {Q : Value → Shared → Prop} (hb : attributeBase e f env (eval e env) = eval e env)
    (h : wpAny (model prog w) A (eval e env) (fun o s₁ => wpAny (model prog w) A (getAttr o f true) Q E s₁) E s) : wpAny (model prog w) A (eval (.Attribute e f pos) env) Q E s :=
  Attribute_any_ h (by rw [arm_eval_Attribute, hb])
end

/-! ### readings and rules -/
/-- e.f, an attribute of the instance -/
def tFld (K : PySem.W.Frag) (ta : TE) (f : Str) : TE := fun σ H Q => ta σ H fun x H1 => ∃ a C dx fs v, x = .ref a ∧ H1 a = some (.ins C dx fs) ∧ Cls K C ∧ NoAttr K C f ∧ fs.lookup f = some v ∧ Q v H1
/-- e.f, a constant of the class -/
def tCon (K : PySem.W.Frag) (ta : TE) (f : Str) : TE := fun σ H Q => ta σ H fun x H1 => ∃ a C dx fs v u, x = .ref a ∧ H1 a = some (.ins C dx fs) ∧ Cls K C ∧ Con K C f v u ∧ fs.lookup f = none ∧ Q v H1
/-- e.f = value -/
def sFld (K : PySem.W.Frag) (ta tv : TE) (f : Str) : TS := fun D σ H => tv σ H fun y H1 => ta σ H1 fun x H2 => ∃ a C dx fs, x = .ref a ∧ H2 a = some (.ins C dx fs) ∧ Cls K C ∧ NoAttr K C f ∧ fs.length < 1000 ∧
  D.nx σ (upd H2 a (.ins C dx (putF f y fs)))
/-- an augmented operator on two values -/
def InOp (X : Cx) (op : Operator) (rd : V → V → Hp → VK → Prop) : Prop :=
  ∀ (pins : List (Addr × Obj)) (s : Shared) (σ : St) (H : Hp) (x y : V) (u v : Value) (Q : VK), Inv X pins σ H s → RelV x u → RelV y v → rd x y H Q → wpAny (model X.prog X.w) X.A (inplaceOp op u v) (EP X pins σ Q) X.xe s
/-- e.f op= value -/
def sFldAug (K : PySem.W.Frag) (ta tv : TE) (rd : V → V → Hp → VK → Prop) (f : Str) : TS := fun D σ H => ta σ H fun x H1 => ∃ a C dx fs v, x = .ref a ∧ H1 a = some (.ins C dx fs) ∧ Cls K C ∧ NoAttr K C f ∧ fs.lookup f = some v ∧
  tv σ H1 fun y H2 => rd v y H2 fun z H3 => ∃ dx' fs', H3 a = some (.ins C dx' fs') ∧ fs'.length < 1000 ∧ D.nx σ (upd H3 a (.ins C dx' (putF f z fs')))

section
variable {X : Cx} {o e value : Expr} {f : Str} {pos pos' tpos : Pos} {ta tv : TE}
theorem pe_fld (he : PE X e ta) (hb : attributeBase e f X.env (eval e X.env) = eval e X.env) : PE X (.Attribute e f pos) (tFld X.K ta f) := by
  intro pins s σ H Q I h
  refine attr_of hb (thn (he pins s σ H _ I h) fun u s1 ⟨x, H1, I1, rx, a, C, dx, fs, v, ex, ea, c, n, l, q⟩ => ?_)
  subst ex
  obtain rfl : u = Value.ref a := rx
  exact getattr_ok I1 ea c n l fun u' s2 I2 ru => ⟨v, H1, I2, ru, q⟩
theorem pe_con (he : PE X e ta) (hb : attributeBase e f X.env (eval e X.env) = eval e X.env) : PE X (.Attribute e f pos) (tCon X.K ta f) := by
  intro pins s σ H Q I h
  refine attr_of hb (thn (he pins s σ H _ I h) fun u s1 ⟨x, H1, I1, rx, a, C, dx, fs, v, u0, ex, ea, c, k, l, q⟩ => ?_)
  subst ex
  obtain rfl : u = Value.ref a := rx
  exact getcon_ok I1 ea c k l fun s2 I2 => ⟨v, H1, I2, k.rel, q⟩
theorem ps_fld (ha : PE X o ta) (hv : PE X value tv) (hs : swapsWith value (some (.Attribute o f pos')) pos.line X.env = pure false) : PS X (.Assign [.Attribute o f pos'] value pos) (sFld X.K ta tv f) := by
  intro pins s σ H D I h
  refine plainObj_wpAny_Assign_Attribute (thn (hv pins s σ H _ I h) fun u s1 ⟨y, H1, I1, ry, q⟩ => thn (ha pins s1 σ H1 _ I1 q) fun ov s2 ⟨x, H2, I2, rx, a, C, dx, fs, ex, ea, c, n, l, q2⟩ => ?_) hs
  subst ex
  obtain rfl : ov = Value.ref a := rx
  exact setattr_ok I2 ea c n l ry fun s3 I3 => ⟨σ, _, I3, q2⟩
theorem ps_fldaug {op : Operator} {rd : V → V → Hp → VK → Prop} (ha : PE X o ta) (hv : PE X value tv) (hop : InOp X op rd) : PS X (.AugAssign (.Attribute o f tpos) op value pos) (sFldAug X.K ta tv rd f) := by
  intro pins s σ H D I h
  refine wpAny_AugAssign_AttributeAny (thn (ha pins s σ H _ I h) fun ov s1 ⟨x, H1, I1, rx, a, C, dx, fs, v, ex, ea, c, n, l, q⟩ => ?_)
  subst ex
  obtain rfl : ov = Value.ref a := rx
  refine getattr_ok I1 ea c n l fun u s2 I2 ru => thn (hv pins s2 σ H1 _ I2 q) fun w3 s3 ⟨y, H2, I3, ry, q3⟩ => thn (hop pins s3 σ H2 v y u w3 _ I3 ru ry q3) fun w4 s4 ⟨z, H3, I4, rz, dx', fs', ea', l', q4⟩ => ?_
  exact setattr_ok I4 ea' c n l' rz fun s5 I5 => ⟨σ, _, I5, q4⟩
def rAdd : V → V → Hp → VK → Prop := fun x y H Q => ∃ i j, x = .int i ∧ y = .int j ∧ Q (.int (i + j)) H
def rSub : V → V → Hp → VK → Prop := fun x y H Q => ∃ i j, x = .int i ∧ y = .int j ∧ Q (.int (i - j)) H
theorem in_add : InOp X .Add rAdd := by
  rintro pins s σ H x y u v Q I rx ry ⟨i, j, rfl, rfl, q⟩
  obtain ⟨t, rfl⟩ := (show ∃ t, u = Value.int i t from rx)
  obtain ⟨t', rfl⟩ := (show ∃ t', v = Value.int j t' from ry)
  exact PyProof.Rows.iadd_int ⟨.int (i + j), H, I.tok _, ⟨_, rfl⟩, q⟩
theorem in_sub : InOp X .Sub rSub := by
  rintro pins s σ H x y u v Q I rx ry ⟨i, j, rfl, rfl, q⟩
  obtain ⟨t, rfl⟩ := (show ∃ t, u = Value.int i t from rx)
  obtain ⟨t', rfl⟩ := (show ∃ t', v = Value.int j t' from ry)
  exact PyProof.Rows.isub_int ⟨.int (i - j), H, I.tok _, ⟨_, rfl⟩, q⟩

/-- what is between an instance and its method: the tree of a method call -/
theorem methcall_of {pl : Sem Bool} {m : Str} {apos : Pos} {args : List Expr} {pins : List (Addr × Obj)} {s : Shared} {σ : St} {H : Hp} {Q : Value → Shared → Prop} {te : TE} (he : PE X e te) (I : Inv X pins σ H s)
    (h : te σ H fun x H1 => ∃ a C dx fs g, x = .ref a ∧ H1 a = some (.ins C dx fs) ∧ Cls X.K C ∧ Meth X.K C m g ∧ fs.lookup m = none ∧
      ∀ s1, Inv X pins σ H1 s1 → wpAny (model X.prog X.w) X.A (callWith pos (.ref g) [.ref a] (backTo pos (starEach args X.env)) (backToKw pos (keywordEach [] X.env))) Q X.xe s1)
    (ht : eval (.Call (.Attribute e m apos) args [] pos) X.env = (do
      let ov ← eval e X.env
      standAt apos.atName
      let (f, first) ← holding [ov] (getMethod ov m pl)
      callWith pos f first (backTo pos (starEach args X.env)) (backToKw pos (keywordEach [] X.env)))) :
    wpAny (model X.prog X.w) X.A (eval (.Call (.Attribute e m apos) args [] pos) X.env) Q X.xe s := by
  refine PySem.W.methodCall_KW (pl := pl) (thn (he pins s σ H _ I h) fun u s1 ⟨x, H1, I1, rx, a, C, dx, fs, g, ex, ea, c, k, l, q⟩ => ?_) ht
  subst ex
  obtain rfl : u = Value.ref a := rx
  exact getmeth_ok I1 ea c k l (q s1 I1)
end

/-! ### isinstance -/
section
variable {X : Cx} {pins : List (Addr × Obj)} {σ : St} {H : Hp} {s : Shared} {A : Around} {E : Value → Shared → Prop} {Q : Value → Shared → Prop} {c : Value} {b : Bool}
/-- the type of a value, as the fragment's deciders take it; for an instance its class -/
inductive TyOf (K : PySem.W.Frag) (H : Hp) : V → Value → Prop where
  | non : TyOf K H .non (.type "NoneType")
  | bl (x : Bool) : TyOf K H (.bl x) (.type "bool")
  | int (i : Int) : TyOf K H (.int i) (.type "int")
  | str (x : Str) : TyOf K H (.str x) (.type "str")
  | flt (x : UInt64) : TyOf K H (.flt x) (.type "float")
  | lst {a : Addr} {xs : List V} (e : H a = some (.lst xs)) : TyOf K H (.ref a) (.type "list")
  | frz {a : Addr} {o : Obj} {xs : List V} (e : H a = some (.frz o (.lst xs))) : TyOf K H (.ref a) (.type "list")
  | tup {a : Addr} {xs : List V} (e : H a = some (.tup xs)) : TyOf K H (.ref a) (.type "tuple")
  | dK {a : Addr} {kvs : List (Key × V)} (e : H a = some (.dK kvs)) : TyOf K H (.ref a) (.type "dict")
  | dT {a : Addr} {kvs : List (List Key × V)} (e : H a = some (.dT kvs)) : TyOf K H (.ref a) (.type "dict")
  | ins {a C dx : Addr} {fs : List (Str × V)} (e : H a = some (.ins C dx fs)) (cl : Cls K C) (ha : PySem.W.findIn K (.ref C) "__class__" = some (some (.builtin "object.__class__")))
      (hn : PySem.W.specialIn K (.builtin "object.__class__") "__get__" = some (some (.builtin "getset_descriptor.__get__"))) (htk : PySem.W.takesIn K (.builtin "object.__class__") = some true)
      (hm : PySem.W.mroIn K C (.type "object") = some true) : TyOf K H (.ref a) (.ref C)
/-- isinstance(x, c) for one class c, a built-in or an own one: kitOne's answer -/
theorem isinst_ok {x : V} {u t : Value} (I : Inv X pins σ H s) (rx : RelV x u) (ty : TyOf X.K H x t) (e : PySem.W.kitOne X.K t c = some b) (h : ∀ tk, Q (.bool b) { s with toks := tk }) :
    wpAny (model X.prog X.w) A (call (.builtin "isinstance") [u, c]) Q E s := by
  cases ty with
  | non => cases (show u = Value.none from rx); exact PySem.W.kia_one PySem.W.kitx_none I.kIn True.intro e (fun z => nomatch z) h
  | bl y => cases (show u = Value.bool y from rx); exact PySem.W.kia_one PySem.W.kitx_bool I.kIn True.intro e (fun z => nomatch z) h
  | int i => obtain ⟨t, q⟩ := (show ∃ t, u = Value.int i t from rx); cases q; exact PySem.W.kia_one PySem.W.kitx_int I.kIn True.intro e (fun z => nomatch z) h
  | str y => obtain ⟨t, q⟩ := (show ∃ t, u = Value.str y t from rx); cases q; exact PySem.W.kia_one PySem.W.kitx_str I.kIn True.intro e (fun z => nomatch z) h
  | flt y => obtain ⟨t, q⟩ := (show ∃ t, u = Value.float y t from rx); cases q; exact PySem.W.kia_one PySem.W.kitx_float I.kIn True.intro e (fun z => nomatch z) h
  | @lst a xs ea =>
    cases (show u = Value.ref a from rx)
    obtain ⟨_, _, n, _, h1⟩ := (show ObjOk X.prog X.w H s.heap a (.lst xs) from I.hok a _ ea)
    exact PySem.W.kia_one PySem.W.kitx_list I.kIn ⟨_, h1, rfl⟩ e (fun z => nomatch z) h
  | @frz a ob xs ea =>
    cases (show u = Value.ref a from rx)
    obtain ⟨_, _, _, n, _, h1⟩ := (show ObjOk X.prog X.w H s.heap a (.frz ob (.lst xs)) from I.hok a _ ea)
    exact PySem.W.kia_one PySem.W.kitx_list I.kIn ⟨_, h1, rfl⟩ e (fun z => nomatch z) h
  | @tup a xs ea =>
    cases (show u = Value.ref a from rx)
    obtain ⟨_, _, _, p⟩ := (show ObjOk X.prog X.w H s.heap a (.tup xs) from I.hok a _ ea)
    obtain ⟨o, h1, h2, _⟩ := p
    exact PySem.W.kia_one PySem.W.kitx_tuple I.kIn ⟨o, h1, h2⟩ e (fun z => nomatch z) h
  | @dK a kvs ea =>
    cases (show u = Value.ref a from rx)
    obtain ⟨_, _, vs, _, p⟩ := (show ObjOk X.prog X.w H s.heap a (.dK kvs) from I.hok a _ ea)
    obtain ⟨o, es, ep, h1, h2, _⟩ := p
    exact PySem.W.kia_one PySem.W.kitx_dict I.kIn ⟨o, h1, h2.1⟩ e (fun z => nomatch z) h
  | @dT a kvs ea =>
    cases (show u = Value.ref a from rx)
    obtain ⟨_, _, xs, _, o, es, ep, h1, h2, _⟩ := (show ObjOk X.prog X.w H s.heap a (.dT kvs) from I.hok a _ ea)
    exact PySem.W.kia_one PySem.W.kitx_dict I.kIn ⟨o, h1, h2.1⟩ e (fun z => nomatch z) h
  | @ins a C dx fs ea cl ha hn htk hm =>
    cases (show u = Value.ref a from rx)
    obtain ⟨mA, O, _⟩ := ins_get I.hok ea
    obtain ⟨od, J, _⟩ := O.look
    exact PySem.W.kia_one (PySem.W.kitx_own (cl.get _) cl.hd ha hn htk hm) I.kIn J e (fun z => nomatch z) h
end
end L2

namespace L2
open PySem PySem.Spec PyProof.Rows

/-! ### room -/
structure Room (k : Nat) (A : Around) : Prop where
  hd : A.handled = none
  dp : A.depth + 3 * k + 5 < recursionLimit
  un : A.units + 16 * k + 200 < cLine
  gd : A.guards = some []
theorem Room.mono {j k : Nat} {A : Around} (r : Room k A) (h : j ≤ k) : Room j A := ⟨r.hd, by have := r.dp; omega, by have := r.un; omega, r.gd⟩
theorem Room.deeper {k : Nat} {A : Around} (r : Room (k + 1) A) (env : Env) : Room k (A.deeper env) :=
  ⟨r.hd, by have := r.dp; show A.depth + 1 + 3 * k + 5 < _; omega, by have := r.un; show A.units + 3 + 16 * k + 200 < _; omega, r.gd⟩
theorem Room.in1 {k : Nat} {A : Around} (r : Room (k + 1) A) : Room k A.in1 :=
  ⟨r.hd, by have := r.dp; show A.depth + 3 * k + 5 < _; omega, by have := r.un; show A.units + 1 + 16 * k + 200 < _; omega, r.gd⟩
theorem make_depth {A : Around} {C : Addr} {us : List Value} {kw : List (Str × Value)} : (A.under (.builtin "type.__call__" ⟨.ref C :: us, kw⟩)).depth = A.depth + 1 := by
  first | rfl | simp [Around.under, Code.weight, Code.isCreation, Code.isGuard, Code.isCaller, Code.frames, Code.isFrame, guardIds]
theorem make_units {A : Around} {C : Addr} {us : List Value} {kw : List (Str × Value)} : (A.under (.builtin "type.__call__" ⟨.ref C :: us, kw⟩)).units = A.units + 1 := by
  first | rfl | simp [Around.under, Code.cUnits, Code.frames, Code.isFrame]
theorem Room.make {k : Nat} {A : Around} (r : Room (k + 1) A) (C : Addr) (us : List Value) (kw : List (Str × Value)) : Room k (A.under (.builtin "type.__call__" ⟨.ref C :: us, kw⟩)) :=
  ⟨r.hd, by have := r.dp; rw [make_depth]; omega, by have := r.un; rw [make_units]; omega, by first | exact r.gd | (show pushGuards _ A.guards = _; rw [r.gd]; rfl)⟩
theorem Room.depth {k : Nat} {A : Around} (r : Room k A) : A.depth < recursionLimit := by have := r.dp; omega
theorem Room.units {k : Nat} {A : Around} (r : Room k A) : A.units + 64 < cLine := by have := r.un; omega
theorem Room.units0 {k : Nat} {A : Around} (r : Room k A) : A.units < cLine := by have := r.un; omega

/-! ### argument lists and displays -/
def tNil : TA := fun _ H Q => Q [] H
def tCons (ta : TE) (tr : TA) : TA := fun σ H Q => ta σ H fun x H1 => tr σ H1 fun xs H2 => Q (x :: xs) H2
section
variable {X : Cx} {e : Expr} {es : List Expr} {te : TE} {t : TA} {pos : Pos}
theorem pa_nil : PA X [] tNil := fun _ _ _ _ H Q I h => Calls.spliced_nil ⟨[], H, I, .nil, h⟩
theorem pa_cons (ha : PE X e te) (hr : PA X es t) (hs : starEach (e :: es) X.env = (false, eval e X.env) :: starEach es X.env := by rfl) : PA X (e :: es) (tCons te t) := by
  intro pos pins s σ H Q I h
  rw [hs]
  show wpAny _ _ (spliced ((false, eval e X.env) :: backTo pos (starEach es X.env))) _ _ s
  refine Calls.spliced_cons (thn (ha pins s σ H _ I h) fun u s1 ⟨x, H1, I1, r1, q1⟩ => ?_)
  exact thn (hr pos pins s1 σ H1 _ I1 q1) fun us s2 ⟨xs, H2, I2, r2, q2⟩ => ⟨x :: xs, H2, I2, .cons r1 r2, q2⟩

/-- a tuple, a list of written items -/
def tTup (t : TA) : TE := fun σ H Q => t σ H fun xs H1 => xs.length ≤ sizeLine ∧ ∀ p, H1 p = none → Q (.ref p) (upd H1 p (.tup xs))
def tLst (t : TA) : TE := fun σ H Q => t σ H fun xs H1 => xs.length ≤ sizeLine ∧ ∀ p, H1 p = none → Q (.ref p) (upd H1 p (.lst xs))
theorem pe_tup {x1} (h : PA X es t) : PE X (.Tuple es x1 pos) (tTup t) := by
  intro pins s σ H Q I hq
  refine wpAny_Tuple_spliced (thn (h pos pins s σ H _ I hq) fun us s1 ⟨xs, H1, I1, r, z, q⟩ => ⟨by rw [← r.length]; exact z, ?_⟩)
  have hf : H1 s1.heap.objs.size = none := I1.hok.fresh (Nat.le_refl _)
  refine ⟨.ref s1.heap.objs.size, upd H1 s1.heap.objs.size (.tup xs), I1.laid (t' := s1.toks) (fun b u e => Heap.get?_push_of_some _ e) (Nat.le_refl _) ?_, rfl, q _ hf⟩
  exact ⟨z, us, r, ⟨_, Heap.get?_push_size _ rfl, rfl, _, rfl⟩⟩
theorem pe_lst (h : PA X es t) : PE X (.List es pos) (tLst t) := by
  intro pins s σ H Q I hq
  refine wpAny_List_spliced (thn (h pos pins s σ H _ I hq) fun us s1 ⟨xs, H1, I1, r, z, q⟩ => ⟨by rw [← r.length]; exact z, ?_⟩)
  have hf : H1 s1.heap.objs.size = none := I1.hok.fresh (Nat.le_refl _)
  refine ⟨.ref s1.heap.objs.size, upd H1 s1.heap.objs.size (.lst xs), I1.laid (t' := s1.toks) (fun b u e => Heap.get?_push_of_some _ e) (Nat.le_refl _) ?_, rfl, q _ hf⟩
  exact ⟨z, us, 0, r, Heap.get?_push_size _ rfl⟩
end

/-! ### what a def promises -/
/-- a def's promise: the bound arguments in the parameters' order, the heap, the wanted end, the wanted exception -/
abbrev Sp := List V → Hp → VK → XK → Prop
/-- how an exception lies behind a call (file 08 gives it): the callers' frames, abstract heap and state ahead of the call, the wish, the exception, the state -/
abbrev CXT := List Env → Hp → Shared → XK → Value → Shared → Prop

/-- the state at a call -/
structure Env0 (P : Program) (w : World) (K : PySem.W.Frag) (mg : Str → Option Value) (base : Heap) (A : Around) (outer : List Env) (s : Shared) (H : Hp) : Prop where
  frames : A.frames = some outer
  mod : Mod K mg base
  bs : ∀ b o, base.get? b = some o → s.heap.get? b = some o ∧ H b = none
  bsz : base.objs.size ≤ s.heap.objs.size
  funs : s.heap.FunFrames base outer
  frf : ∀ b ∈ frs outer, H b = none
  hok : HOk P w H s.heap
  bare : AllBare s.gens
/-- a call's end -/
def CE (outer : List Env) (P : Program) (w : World) (H : Hp) (s : Shared) (Q : VK) (u : Value) (s' : Shared) : Prop :=
  ∃ v H', s'.os = s.os ∧ AllBare s'.gens ∧ Un (frs outer) [] H H' s.heap s'.heap ∧ HOk P w H' s'.heap ∧ RelV v u ∧ Q v H'
def CR (CX : CXT) (outer : List Env) (P : Program) (w : World) (H : Hp) (s : Shared) (Q : VK) (E : XK) (r : Result) (s' : Shared) : Prop :=
  match r with
  | .ok (.ret u) => CE outer P w H s Q u s'
  | .ok _ => False
  | .error e => CX outer H s E e s'
structure FnOk (P : Program) (w : World) (K : PySem.W.Frag) (mg : Str → Option Value) (base : Heap) (CX : CXT) (k : Nat) (f : Addr) (fd : FuncData) (ps : List Str) (sp : Sp) : Prop where
  len : ∀ vs H Q E, sp vs H Q E → vs.length = ps.length
  run : ∀ (A : Around) (outer : List Env) (s : Shared) (H : Hp) (args : Args) (us : List Value) (vs : List V) (Q : VK) (E : XK), Room k A → Env0 P w K mg base A outer s H → BindsTo s fd args (ps.zip us) → Vals vs us → sp vs H Q E →
    codeAny (model P w) A (.call (.ref f) args) (CR CX outer P w H s Q E) s
theorem FnOk.mono {P : Program} {w : World} {K : PySem.W.Frag} {mg : Str → Option Value} {base : Heap} {CX : CXT} {j k : Nat} {f : Addr} {fd : FuncData} {ps : List Str} {sp : Sp} (F : FnOk P w K mg base CX j f fd ps sp) (h : j ≤ k) :
    FnOk P w K mg base CX k f fd ps sp := ⟨F.len, fun A outer s H args us vs Q E hr => F.run A outer s H args us vs Q E (hr.mono h)⟩
/-- a weaker promise -/
theorem FnOk.imp {P : Program} {w : World} {K : PySem.W.Frag} {mg : Str → Option Value} {base : Heap} {CX : CXT} {k : Nat} {f : Addr} {fd : FuncData} {ps : List Str} {sp sp' : Sp} (F : FnOk P w K mg base CX k f fd ps sp)
    (h : ∀ vs H Q E, sp' vs H Q E → sp vs H Q E) : FnOk P w K mg base CX k f fd ps sp' :=
  ⟨fun vs H Q E q => F.len vs H Q E (h _ _ _ _ q), fun A outer s H args us vs Q E hr he hb hv hs => F.run A outer s H args us vs Q E hr he hb hv (h _ _ _ _ hs)⟩

theorem Env0.make {P : Program} {w : World} {K : PySem.W.Frag} {mg : Str → Option Value} {base : Heap} {A : Around} {outer : List Env} {s : Shared} {H : Hp} (e : Env0 P w K mg base A outer s H) (C : Addr) (us : List Value) (kw : List (Str × Value)) :
    Env0 P w K mg base (A.under (.builtin "type.__call__" ⟨.ref C :: us, kw⟩)) outer s H := ⟨by first | exact e.frames | (simpa [Around.under, Code.envs, Code.isFrame, pushEnvs] using e.frames), e.mod, e.bs, e.bsz, e.funs, e.frf, e.hok, e.bare⟩
theorem Env0.in1 {P : Program} {w : World} {K : PySem.W.Frag} {mg : Str → Option Value} {base : Heap} {A : Around} {outer : List Env} {s : Shared} {H : Hp} (e : Env0 P w K mg base A outer s H) :
    Env0 P w K mg base A.in1 outer s H := ⟨e.frames, e.mod, e.bs, e.bsz, e.funs, e.frf, e.hok, e.bare⟩

section
variable {X : Cx} {pins : List (Addr × Obj)} {σ : St} {H : Hp} {s s' : Shared}
/-- from a body: what a callee wants -/
theorem Inv.env0 (I : Inv X pins σ H s) : Env0 X.prog X.w X.K X.mg X.base X.A X.stack s H :=
  ⟨I.ok.frames, I.ok.mod, I.bs, Nat.le_trans I.ok.bsz I.sz, I.stack, I.stkFree, I.hok, I.bare⟩
/-- behind a call -/
theorem Inv.after {Q : VK} {u : Value} (I : Inv X pins σ H s) (h : CE X.stack X.prog X.w H s Q u s') : EP X pins σ Q u s' := by
  obtain ⟨v, H', os, bare, un, hok, r, q⟩ := h
  obtain ⟨hh, g, d, t, os'⟩ := s'
  obtain rfl : os' = s.os := os
  exact ⟨v, H', I.call (h' := hh) (g' := g) (d' := d) (t' := t) (ch := []) un hok bare (fun b z => absurd z (by simp)), r, q⟩
end

/-! ### calls -/
/-- f(..): the written arguments, then the defaults dvs; E: what is wanted of an exception -/
def tCall (sp : Sp) (dvs : List V) (E : XK) (t : TA) : TE := fun σ H Q => t σ H fun vs H1 => sp (vs ++ dvs) H1 Q E
/-- o.m(..) of an instance of the class at C -/
def tMeth (C : Addr) (m : Str) (sp : Sp) (dvs : List V) (E : XK) (ta : TE) (t : TA) : TE := fun σ H Q => ta σ H fun x H1 => ∃ a dx fs, x = .ref a ∧ H1 a = some (.ins C dx fs) ∧ fs.lookup m = none ∧
  t σ H1 fun vs H2 => sp (x :: (vs ++ dvs)) H2 Q E
/-- C(..): a new instance and its dict, then __init__ -/
def tMake (C : Addr) (sp : Sp) (dvs : List V) (E : XK) (t : TA) : TE := fun σ H Q => t σ H fun vs H1 => ∀ x dx, H1 x = none → H1 dx = none → dx ≠ x →
  sp (.ref x :: (vs ++ dvs)) (upd (upd H1 dx (.own x)) x (.ins C dx [])) (fun v H2 => v = .non ∧ Q (.ref x) H2) E

/-- how the parameters are bound: us the positional arguments, kw the keywords' values by name, ds the defaults that fill up -/
def Binds (K : PySem.W.Frag) (fd : FuncData) (ps : List Str) (ds : List Value) : Prop :=
  ∀ (s : Shared) (us : List Value), K.In s.heap → (us ++ ds).length = ps.length → BindsTo s fd ⟨us, []⟩ (ps.zip (us ++ ds))
/-- every parameter is given -/
theorem Binds.all {K : PySem.W.Frag} {fd : FuncData} {ps : List Str} (h : ∀ us : List Value, us.length = ps.length → bindArgs fd ⟨us, []⟩ = pure (ps.zip us)) : Binds K fd ps [] := fun s us _ hl => by
  rw [List.append_nil] at hl ⊢
  exact .of_eq (h us hl)

/-- an exception of a callee reaches what this body wants of exceptions -/
def Passes (CX : CXT) (X : Cx) (E : XK) : Prop := ∀ (pins : List (Addr × Obj)) (σ : St) (H : Hp) (s : Shared) (e : Value) (s' : Shared), Inv X pins σ H s → CX X.stack H s E e s' → X.xe e s'

section
variable {X : Cx} {CX : CXT} {k : Nat} {f C : Addr} {fd : FuncData} {ps : List Str} {sp : Sp} {dvs : List V} {ds : List Value} {E : XK} {x m : Str} {p pos apos : Pos} {e o : Expr} {es : List Expr} {ta : TE} {t : TA}

/-- the callee runs -/
theorem run_fn {pins : List (Addr × Obj)} {σ : St} {H : Hp} {s : Shared} {Q : VK} {us : List Value} {vs : List V} (F : FnOk X.prog X.w X.K X.mg X.base CX k f fd ps sp) (hr : Room k X.A) (hb : Binds X.K fd ps ds) (hd : Vals dvs ds) (hx : Passes CX X E)
    (I : Inv X pins σ H s) (r : Vals vs us) (h : sp (vs ++ dvs) H Q E) : wpAny (model X.prog X.w) X.A (call (.ref f) us) (EP X pins σ Q) X.xe s := by
  have r2 : Vals (vs ++ dvs) (us ++ ds) := r.append hd
  have hl : (us ++ ds).length = ps.length := by rw [← r2.length]; exact F.len _ _ _ _ h
  refine wpAny_call (codeAny_mono (F.run X.A X.stack s H ⟨us, []⟩ (us ++ ds) (vs ++ dvs) Q E hr I.env0 (hb s us I.kIn hl) r2 h) fun r s' hq => ?_)
  cases r with
  | error e => exact hx pins σ H s e s' I hq
  | ok fl =>
    cases fl with
    | ret u => exact I.after hq
    | next => exact False.elim hq
    | brk => exact False.elim hq
    | cont => exact False.elim hq

theorem pe_call (F : FnOk X.prog X.w X.K X.mg X.base CX k f fd ps sp) (hr : Room k X.A) (hg : Gl X x) (hm : X.mg x = some (.ref f)) (hk : PySem.W.keepIn X.K (.ref f) = true) (hb : Binds X.K fd ps ds) (hd : Vals dvs ds) (hx : Passes CX X E)
    (ha : PA X (e :: es) t) (hdb : (x == ("__debug__" : Str)) = false := by decide) (he : starEach (e :: es) X.env = (false, eval e X.env) :: starEach es X.env := by rfl) (hpl : (backTo pos (starEach es X.env)).any (·.1) = false := by rfl) :
    PE X (.Call (.Name x p) (e :: es) [] pos) (tCall sp dvs E t) := by
  intro pins s σ H Q I h
  refine wpAny_Call_Name_kw (ld_glob I hg hm ?_ hdb)
  refine PySem.W.callWith_K (h₀ := X.base) I.ok.mod.kin hk (thn (ha pos pins s σ H _ I h) fun us s1 ⟨vs, H1, I1, r, q⟩ => ⟨I1.kIn, ?_⟩) he hpl
  exact run_fn F hr hb hd hx I1 r q
theorem pe_call0 (F : FnOk X.prog X.w X.K X.mg X.base CX k f fd ps sp) (hr : Room k X.A) (hg : Gl X x) (hm : X.mg x = some (.ref f)) (hk : PySem.W.keepIn X.K (.ref f) = true) (hb : Binds X.K fd ps ds) (hd : Vals dvs ds) (hx : Passes CX X E)
    (hdb : (x == ("__debug__" : Str)) = false := by decide) : PE X (.Call (.Name x p) [] [] pos) (tCall sp dvs E tNil) := by
  intro pins s σ H Q I h
  refine wpAny_Call_Name_kw (ld_glob I hg hm ?_ hdb)
  exact PySem.W.callWith_K0 I.kIn hk (run_fn (us := []) F hr hb hd hx I .nil h)

/-- o.m(e, ..) -/
theorem pe_meth {pl : Sem Bool} (he : PE X o ta) (c : Cls X.K C) (hm : Meth X.K C m f) (F : FnOk X.prog X.w X.K X.mg X.base CX k f fd ps sp) (hr : Room k X.A) (hb : Binds X.K fd ps ds) (hd : Vals dvs ds) (hx : Passes CX X E) (ha : PA X (e :: es) t)
    (hst : starEach (e :: es) X.env = (false, eval e X.env) :: starEach es X.env := by rfl) (hpl : (backTo pos (starEach es X.env)).any (·.1) = false := by rfl)
    (ht : eval (.Call (.Attribute o m apos) (e :: es) [] pos) X.env = (do
      let ov ← eval o X.env
      standAt apos.atName
      let (f, first) ← holding [ov] (getMethod ov m pl)
      callWith pos f first (backTo pos (starEach (e :: es) X.env)) (backToKw pos (keywordEach [] X.env))) := by rfl) :
    PE X (.Call (.Attribute o m apos) (e :: es) [] pos) (tMeth C m sp dvs E ta t) := by
  intro pins s σ H Q I h
  refine PySem.W.methodCall_KW (pl := pl) (thn (he pins s σ H _ I h) fun u s1 ⟨x, H1, I1, rx, a, dx, fs, ex, ea, l, q⟩ => ?_) ht
  subst ex
  obtain rfl : u = Value.ref a := rx
  refine getmeth_ok I1 ea c hm l ?_
  refine PySem.W.callWith_K (first := [.ref a]) (h₀ := X.base) I.ok.mod.kin hm.kp (thn (ha pos pins s1 σ H1 _ I1 q) fun us s2 ⟨vs, H2, I2, r, q2⟩ => ⟨I2.kIn, ?_⟩) hst hpl
  exact run_fn (us := .ref a :: us) (vs := .ref a :: vs) F hr hb hd hx I2 (.cons rfl r) q2
/-- o.m() -/
theorem pe_meth0 {pl : Sem Bool} (he : PE X o ta) (c : Cls X.K C) (hm : Meth X.K C m f) (F : FnOk X.prog X.w X.K X.mg X.base CX k f fd ps sp) (hr : Room k X.A) (hb : Binds X.K fd ps ds) (hd : Vals dvs ds) (hx : Passes CX X E)
    (ht : eval (.Call (.Attribute o m apos) [] [] pos) X.env = (do
      let ov ← eval o X.env
      standAt apos.atName
      let (f, first) ← holding [ov] (getMethod ov m pl)
      callWith pos f first (backTo pos (starEach [] X.env)) (backToKw pos (keywordEach [] X.env))) := by rfl) :
    PE X (.Call (.Attribute o m apos) [] [] pos) (tMeth C m sp dvs E ta tNil) := by
  intro pins s σ H Q I h
  refine PySem.W.methodCall_KW (pl := pl) (thn (he pins s σ H _ I h) fun u s1 ⟨x, H1, I1, rx, a, dx, fs, ex, ea, l, q⟩ => ?_) ht
  subst ex
  obtain rfl : u = Value.ref a := rx
  refine getmeth_ok I1 ea c hm l ?_
  exact PySem.W.callWith_K0 (first := [.ref a]) I1.kIn hm.kp (run_fn (us := [.ref a]) (vs := [.ref a]) F hr hb hd hx I1 (.cons rfl .nil) q)

/-- what a class must have to be made -/
structure Mk (K : PySem.W.Frag) (C f : Addr) : Prop where
  makes : PySem.W.makesIn K C = true
  init : PySem.W.findIn K (.ref C) "__init__" = some (some (.ref f))
  fn : PySem.W.isFn K (.ref f) = true
  kp : PySem.W.keepIn K (.ref C) = true

theorem run_make {pins : List (Addr × Obj)} {σ : St} {H : Hp} {s : Shared} {Q : VK} {us : List Value} {vs : List V} (M : Mk X.K C f) (F : FnOk X.prog X.w X.K X.mg X.base CX k f fd ps sp) (hr : Room (k + 1) X.A) (hb : Binds X.K fd ps ds) (hd : Vals dvs ds)
    (hx : Passes CX X E) (I : Inv X pins σ H s) (r : Vals vs us)
    (h : ∀ x dx, H x = none → H dx = none → dx ≠ x → sp (.ref x :: (vs ++ dvs)) (upd (upd H dx (.own x)) x (.ins C dx [])) (fun v H2 => v = .non ∧ Q (.ref x) H2) E) :
    wpAny (model X.prog X.w) X.A (call (.ref C) us) (EP X pins σ Q) X.xe s := by
  have hq := h (s.heap.objs.size + 1) s.heap.objs.size (I.hok.fresh (Nat.le_succ _)) (I.hok.fresh (Nat.le_refl _)) (Nat.ne_of_lt (Nat.lt_succ_self _))
  have I2 := Inv.made (C := C) I
  have r2 : Vals (V.ref (s.heap.objs.size + 1) :: (vs ++ dvs)) (Value.ref (s.heap.objs.size + 1) :: (us ++ ds)) := .cons rfl (r.append hd)
  have hl : (Value.ref (s.heap.objs.size + 1) :: us ++ ds).length = ps.length := by
    have e := r2.length
    rw [F.len _ _ _ _ hq] at e
    exact e.symm
  refine wpAny_call (make_map (f := f) I.kIn M.makes M.init (beq_iff_eq.mp M.fn) (codeAny_mono (F.run _ X.stack _ _ ⟨Value.ref (s.heap.objs.size + 1) :: us, []⟩ (Value.ref (s.heap.objs.size + 1) :: (us ++ ds)) _ _ E (hr.make C us [])
    (I2.env0.make C us []) (hb _ (Value.ref (s.heap.objs.size + 1) :: us) I2.kIn hl) r2 hq) fun r s' hq' => ?_))
  cases r with
  | error e => exact hx pins σ _ _ e s' I2 hq'
  | ok fl =>
    cases fl with
    | ret u =>
      obtain ⟨v, H', I3, rv, ev, q3⟩ := I2.after hq'
      subst ev
      exact ⟨rv, ⟨V.ref (s.heap.objs.size + 1), H', I3, rfl, q3⟩⟩
    | next => exact False.elim hq'
    | brk => exact False.elim hq'
    | cont => exact False.elim hq'
theorem pe_make (M : Mk X.K C f) (F : FnOk X.prog X.w X.K X.mg X.base CX k f fd ps sp) (hr : Room (k + 1) X.A) (hg : Gl X x) (hm : X.mg x = some (.ref C)) (hb : Binds X.K fd ps ds) (hd : Vals dvs ds) (hx : Passes CX X E)
    (ha : PA X (e :: es) t) (hdb : (x == ("__debug__" : Str)) = false := by decide) (he : starEach (e :: es) X.env = (false, eval e X.env) :: starEach es X.env := by rfl) (hpl : (backTo pos (starEach es X.env)).any (·.1) = false := by rfl) :
    PE X (.Call (.Name x p) (e :: es) [] pos) (tMake C sp dvs E t) := by
  intro pins s σ H Q I h
  refine wpAny_Call_Name_kw (ld_glob I hg hm ?_ hdb)
  refine PySem.W.callWith_K (h₀ := X.base) I.ok.mod.kin M.kp (thn (ha pos pins s σ H _ I h) fun us s1 ⟨vs, H1, I1, r, q⟩ => ⟨I1.kIn, ?_⟩) he hpl
  exact run_make M F hr hb hd hx I1 r q
theorem pe_make0 (M : Mk X.K C f) (F : FnOk X.prog X.w X.K X.mg X.base CX k f fd ps sp) (hr : Room (k + 1) X.A) (hg : Gl X x) (hm : X.mg x = some (.ref C)) (hb : Binds X.K fd ps ds) (hd : Vals dvs ds) (hx : Passes CX X E)
    (hdb : (x == ("__debug__" : Str)) = false := by decide) : PE X (.Call (.Name x p) [] [] pos) (tMake C sp dvs E tNil) := by
  intro pins s σ H Q I h
  refine wpAny_Call_Name_kw (ld_glob I hg hm ?_ hdb)
  exact PySem.W.callWith_K0 I.kIn M.kp (run_make (us := []) M F hr hb hd hx I .nil h)
end

/-! ### keywords -/
/-- the values of the keywords, from the left -/
def PK (X : Cx) (kws : List Keyword) (t : TA) : Prop :=
  ∀ (pos : Pos) (pins : List (Addr × Obj)) (s : Shared) (σ : St) (H : Hp) (Q : List V → Hp → Prop), Inv X pins σ H s → t σ H Q → wpAny (model X.prog X.w) X.A (evalAll ((backToKw pos (keywordEach kws X.env)).map (·.2))) (AP X pins σ Q) X.xe s
section
variable {X : Cx} {CX : CXT} {k : Nat} {f C : Addr} {fd : FuncData} {ps ks : List Str} {sp : Sp} {E : XK} {x m : Str} {p pos apos kpos : Pos} {e o : Expr} {es : List Expr} {kws : List Keyword} {te ta : TE} {t tk : TA} {nm : Option Str}
theorem pk_nil : PK X [] tNil := fun _ _ _ _ H Q I h => wpAny_evalAll_nil ⟨[], H, I, .nil, h⟩
theorem pk_cons (ha : PE X e te) (hr : PK X kws t) : PK X (⟨nm, e, kpos⟩ :: kws) (tCons te t) := by
  intro pos pins s σ H Q I h
  show wpAny _ _ (evalAll ((do let v ← eval e X.env; standAt pos; pure v) :: (backToKw pos (keywordEach kws X.env)).map (·.2))) _ _ s
  refine wpAny_evalAll_cons (wpAny_bind (thn (ha pins s σ H _ I h) fun u s1 ⟨x, H1, I1, r1, q1⟩ => wpAny_bind (wpAny_standAt (wpAny_pure ?_))))
  exact thn (hr pos pins s1 σ H1 _ I1 q1) fun us s2 ⟨xs, H2, I2, r2, q2⟩ => ⟨x :: xs, H2, I2, .cons r1 r2, q2⟩

/-- how a call with keywords binds: g puts the positional values us and the keywords' values ws (names ks) in the parameters' order, defaults among them -/
structure KBinds (K : PySem.W.Frag) (fd : FuncData) (ps ks : List Str) (g : List Value → List Value → List Value) (gV : List V → List V → List V) : Prop where
  to : ∀ (s : Shared) (us ws : List Value), K.In s.heap → (g us ws).length = ps.length → BindsTo s fd ⟨us, ks.zip ws⟩ (ps.zip (g us ws))
  rel : ∀ {vs : List V} {us : List Value} {zs : List V} {ws : List Value}, Vals vs us → Vals zs ws → Vals (gV vs zs) (g us ws)
def tCallK (sp : Sp) (gV : List V → List V → List V) (E : XK) (t tk : TA) : TE := fun σ H Q => t σ H fun vs H1 => tk σ H1 fun zs H2 => sp (gV vs zs) H2 Q E
variable {g : List Value → List Value → List Value} {gV : List V → List V → List V}
theorem run_fnk {pins : List (Addr × Obj)} {σ : St} {H : Hp} {s : Shared} {Q : VK} {us ws : List Value} {vs zs : List V} (F : FnOk X.prog X.w X.K X.mg X.base CX k f fd ps sp) (hr : Room k X.A) (hb : KBinds X.K fd ps ks g gV) (hx : Passes CX X E)
    (I : Inv X pins σ H s) (r : Vals vs us) (rz : Vals zs ws) (h : sp (gV vs zs) H Q E) : wpAny (model X.prog X.w) X.A (call (.ref f) us (ks.zip ws)) (EP X pins σ Q) X.xe s := by
  have r2 := hb.rel r rz
  have hl : (g us ws).length = ps.length := by rw [← r2.length]; exact F.len _ _ _ _ h
  refine wpAny_call (codeAny_mono (F.run X.A X.stack s H ⟨us, ks.zip ws⟩ (g us ws) (gV vs zs) Q E hr I.env0 (hb.to s us ws I.kIn hl) r2 h) fun r s' hq => ?_)
  cases r with
  | error e => exact hx pins σ H s e s' I hq
  | ok fl =>
    cases fl with
    | ret u => exact I.after hq
    | next => exact False.elim hq
    | brk => exact False.elim hq
    | cont => exact False.elim hq
/-- f(e, .., k = v, ..) -/
theorem pe_callK (F : FnOk X.prog X.w X.K X.mg X.base CX k f fd ps sp) (hr : Room k X.A) (hg : Gl X x) (hm : X.mg x = some (.ref f)) (hk : PySem.W.keepIn X.K (.ref f) = true) (hb : KBinds X.K fd ps ks g gV) (hx : Passes CX X E)
    (ha : PA X (e :: es) t) (hkw : PK X kws tk) (hall : (backToKw pos (keywordEach kws X.env)).all (·.1.isSome) = true := by rfl) (hks : (backToKw pos (keywordEach kws X.env)).filterMap (·.1) = ks := by rfl)
    (hdb : (x == ("__debug__" : Str)) = false := by decide) (he : starEach (e :: es) X.env = (false, eval e X.env) :: starEach es X.env := by rfl)
    (hpl : ((backTo pos (starEach (e :: es) X.env)).any (·.1) || (backToKw pos (keywordEach kws X.env)).any (·.1.isNone)) = false := by rfl) :
    PE X (.Call (.Name x p) (e :: es) kws pos) (tCallK sp gV E t tk) := by
  intro pins s σ H Q I h
  refine wpAny_Call_Name_kw (ld_glob I hg hm ?_ hdb)
  refine PySem.W.callWith_KW (h₀ := X.base) I.ok.mod.kin hk hall (thn (ha pos pins s σ H _ I h) fun us s1 ⟨vs, H1, I1, r, q⟩ => ?_) hpl he
  refine thn (hkw pos pins s1 σ H1 _ I1 q) fun ws s2 ⟨zs, H2, I2, rz, q2⟩ => ⟨I2.kIn, ?_⟩
  rw [hks]
  exact run_fnk F hr hb hx I2 r rz q2
end

/-! ### a def's body keeps its promise -/
/-- names: the parameters first -/
structure FnScope (N P : List Str) (sc : Scope) : Prop where
  kind : sc.kind = .function
  co : sc.isCoroutine = false
  gen : sc.isGenerator = false
  nd : N.Nodup
  pre : N.take P.length = P
  par : ∀ x ∈ P, sc.names.lookup x = some .local ∨ sc.names.lookup x = some .cell
  nofree : ∀ y ∈ sc.names, y.2 ≠ .free

theorem bindL_out {kindOf : Str → Option NameKind} {x : Str} : ∀ {binds : List (Str × Value)} {m : Str → Option Value}, (∀ v, (x, v) ∉ binds) → bindL kindOf binds m x = m x
  | [], _, _ => rfl
  | (n, v) :: r, m, h => by
    unfold bindL
    rw [bindL_out fun w hw => h w (List.mem_cons_of_mem _ hw)]
    split
    · have : x ≠ n := by rintro rfl; exact h v List.mem_cons_self
      simp [this]
    · rfl
theorem bindC_out {kindOf : Str → Option NameKind} {x : Str} : ∀ {binds : List (Str × Value)} {m : Str → Option Value}, (∀ v, (x, v) ∉ binds) → bindC kindOf binds m x = m x
  | [], _, _ => rfl
  | (n, v) :: r, m, h => by
    unfold bindC
    rw [bindC_out fun w hw => h w (List.mem_cons_of_mem _ hw)]
    split
    · rfl
    · have : x ≠ n := by rintro rfl; exact h v List.mem_cons_self
      simp [this]
theorem bindL_get {kindOf : Str → Option NameKind} {x : Str} {v : Value} : ∀ {P : List Str} {vs : List Value} {i : Nat} {m : Str → Option Value}, P.Nodup → P[i]? = some x → vs[i]? = some v → kindOf x = some .local →
    bindL kindOf (P.zip vs) m x = some v
  | [], _, _, _, _, h, _, _ => by simp at h
  | _ :: _, [], _, _, _, _, h, _ => by simp at h
  | p :: P, w :: vs, 0, m, nd, h1, h2, hk => by
    simp at h1 h2; subst h1; subst h2
    show bindL kindOf ((p, w) :: P.zip vs) m p = _
    unfold bindL
    rw [bindL_out fun v hv => (List.nodup_cons.mp nd).1 (List.of_mem_zip hv).1, if_pos hk]
    simp
  | p :: P, w :: vs, i + 1, m, nd, h1, h2, hk => by
    show bindL kindOf ((p, w) :: P.zip vs) m x = _
    unfold bindL
    exact bindL_get (i := i) (List.nodup_cons.mp nd).2 (by simpa using h1) (by simpa using h2) hk
theorem bindC_get {kindOf : Str → Option NameKind} {x : Str} {v : Value} : ∀ {P : List Str} {vs : List Value} {i : Nat} {m : Str → Option Value}, P.Nodup → P[i]? = some x → vs[i]? = some v → kindOf x ≠ some .local →
    bindC kindOf (P.zip vs) m x = some v
  | [], _, _, _, _, h, _, _ => by simp at h
  | _ :: _, [], _, _, _, _, h, _ => by simp at h
  | p :: P, w :: vs, 0, m, nd, h1, h2, hk => by
    simp at h1 h2; subst h1; subst h2
    show bindC kindOf ((p, w) :: P.zip vs) m p = _
    unfold bindC
    rw [bindC_out fun v hv => (List.nodup_cons.mp nd).1 (List.of_mem_zip hv).1, if_neg hk]
    simp
  | p :: P, w :: vs, i + 1, m, nd, h1, h2, hk => by
    show bindC kindOf ((p, w) :: P.zip vs) m x = _
    unfold bindC
    exact bindC_get (i := i) (List.nodup_cons.mp nd).2 (by simpa using h1) (by simpa using h2) hk

/-- the names' values at the entry -/
def start (N : List Str) (vs : List V) : St := vs.map some ++ List.replicate (N.length - vs.length) none

/-- the context of a def's body, at its entry; an exception leaves the frame, then lies as CX says -/
def cxOf (CX : CXT) (P : Program) (w : World) (K : PySem.W.Frag) (mg : Str → Option Value) (base : Heap) (N : List Str) (qual : Str) (scope : Scope) (f : Addr) (cd : Value) (A : Around) (outer : List Env) (s : Shared) (H : Hp) (E : XK) : Cx where
  prog := P
  w := w
  K := K
  mg := mg
  base := base
  A := A.deeper (envOfC qual scope s.heap.objs.size f cd)
  N := N
  s₀ := s
  H₀ := H
  env := envOfC qual scope s.heap.objs.size f cd
  outer := outer
  stack := envOfC qual scope s.heap.objs.size f cd :: outer
  ex := []
  calm := true
  fn := fun _ => true
  pn := []
  xe := fun e s' => wpAny (model P w) (A.deeper (envOfC qual scope s.heap.objs.size f cd)) (leaving (envOfC qual scope s.heap.objs.size f cd) e) (fun _ s'' => CX outer H s E e s'') (fun e' s'' => CX outer H s E e' s'') s'

theorem cell_has {sc : Scope} {n : Nat} {x : Str} (h : sc.names.lookup x = some .cell) : ∃ c, (cellsFrom n sc.names []).lookup x = some c := by
  have q := PySem.W.cellsFrom_some sc.names n [] (.inl h)
  exact Option.isSome_iff_exists.mp q

theorem inv_start {CX : CXT} {P : Program} {w : World} {K : PySem.W.Frag} {mg : Str → Option Value} {base : Heap} {N ps : List Str} {qual : Str} {scope : Scope} {f : Addr} {cd : Value} {A : Around} {outer : List Env} {s s1 : Shared} {H : Hp} {E : XK} {us : List Value} {vs : List V}
    (S : FnScope N ps scope) (hd : A.handled = none) (e0 : Env0 P w K mg base A outer s H) (hl : vs.length = ps.length) (r : Vals vs us)
    (x : InCallC s s.heap.objs.size (bindL (envOfC qual scope s.heap.objs.size f cd).kindOf (ps.zip us) fun _ => none) (cellsFrom (s.heap.objs.size + 1) scope.names []) (bindC (envOfC qual scope s.heap.objs.size f cd).kindOf (ps.zip us) fun _ => none) s1) :
    Inv (cxOf CX P w K mg base N qual scope f cd A outer s H E) [] (start N vs) H s1 := by
  have hpl : ps.length ≤ N.length := by have := congrArg List.length S.pre; rw [List.length_take] at this; omega
  obtain ⟨h1, tk, rfl, hk⟩ := x.done
  have noA : ∀ b : Addr, b ∉ (cxOf CX P w K mg base N qual scope f cd A outer s H E).ex := fun b z => absurd (show b ∈ ([] : List Addr) from z) (by simp)
  refine ⟨⟨e0.mod, S.kind, rfl, rfl, Nat.le_refl _, fun y z c h1 h2 => ?_, fun y hy => ?_, fun y c _ h => ?_, fun _ => hd, Around.frames_deeper e0.frames, .inr ⟨rfl, rfl⟩, fun b z => absurd z (noA b), e0.bs, e0.bsz, fun b _ _ => noA b, fun b z => absurd z (noA b), e0.funs, e0.frf⟩,
    rfl, e0.bare, Un.kept hk, ⟨_, x.toInCall.ns, fun i y v h1 h2 h3 => ?_⟩, fun y c h => ⟨_, x.cell y c h⟩, e0.hok.fresh (Nat.le_refl _), fun y c h => ?_, fun p hp => absurd (show p ∈ ([] : List (Addr × Obj)) from hp) (by simp), e0.hok.kept hk, ?_⟩
  · exact name_of_addr x.apart (PySem.mem_of_lookup h1) (PySem.mem_of_lookup h2)
  · have hy : scope.names.lookup y = some .cell ∨ scope.names.lookup y = some .free := hy
    rcases hy with hy | hy
    · exact cell_has hy
    · exact absurd rfl (S.nofree _ (PySem.mem_of_lookup hy))
  · exact Nat.le_of_lt (x.above y c (PySem.mem_of_lookup h))
  · have hi : i < vs.length := by
      unfold start at h2
      by_cases hi : i < vs.length
      · exact hi
      · rw [List.getElem?_append_right (by simpa using hi)] at h2
        rw [List.getElem?_replicate] at h2
        split at h2 <;> cases h2
    have ha : vs[i]? = some v := by
      unfold start at h2
      rw [List.getElem?_append_left (by simpa using hi), List.getElem?_map] at h2
      cases e : vs[i]? with
      | none => rw [e] at h2; cases h2
      | some a => rw [e] at h2; cases h2; rfl
    obtain ⟨u, hu, rv⟩ := r.get ha
    have hp : ps[i]? = some y := by
      rw [← S.pre, List.getElem?_take_of_lt (by omega)]; exact h1
    have ndP : ps.Nodup := by rw [← S.pre]; exact S.nd.sublist (List.take_sublist _ _)
    refine ⟨u, rv, ?_⟩
    rcases S.par y (List.mem_of_getElem? hp) with k | k
    · exact .inl ⟨k, bindL_get ndP hp hu k⟩
    · obtain ⟨c, e⟩ := cell_has (n := s.heap.objs.size + 1) k
      refine .inr ⟨.inl k, c, e, ?_⟩
      have q := x.cell y c e
      rw [bindC_get ndP hp hu (by show scope.names.lookup y ≠ _; rw [k]; decide)] at q
      exact q
  · exact e0.hok.fresh (Nat.le_of_lt (x.above y c (PySem.mem_of_lookup h)))
  · unfold start
    show _ = N.length
    rw [List.length_append, List.length_map, List.length_replicate]
    omega

/-- THE RULE: a def (or a method) of the text, by its body. The body's reading t is chosen for each entry; it is run at the parameters' values -/
theorem fn_of {CX : CXT} {P : Program} {w : World} {K : PySem.W.Frag} {mg : Str → Option Value} {base : Heap} {k : Nat} {f : Addr} {name qual : Str} {params : Arguments} {body : List Stmt} {scope : Scope} {dV kV doc pm cdv ct oc : Value} {an od : Option Addr}
    {osl : Array (Option Value)} {N ps : List Str} {sp : Sp} (lk : K.lookup f = some ⟨oc, od, .func (PySem.W.fnOf name qual params body scope dV kV doc pm an cdv ct), osl⟩) (hcd : PySem.W.codeIn K cdv qual = true) (S : FnScope N ps scope)
    (len : ∀ vs H Q E, sp vs H Q E → vs.length = ps.length)
    (hbody : ∀ (A : Around) (outer : List Env) (s : Shared) (H : Hp) (vs : List V) (Q : VK) (E : XK), Room k (A.deeper (envOfC qual scope s.heap.objs.size f cdv)) → sp vs H Q E →
      ∃ t, PSs (cxOf CX P w K mg base N qual scope f cdv A outer s H E) body t ∧ t { nx := fun _ H' => Q .non H', rt := Q } (start N vs) H) :
    FnOk P w K mg base CX (k + 1) f (PySem.W.fnOf name qual params body scope dV kV doc pm an cdv ct) ps sp := by
  refine ⟨len, fun A outer s H args us vs Q E hr e0 hb r hsp => ?_⟩
  have hl := len _ _ _ _ hsp
  have KX : K.In s.heap := e0.mod.kin.keeps fun b o e => (e0.bs b o e).1
  have lim : s.heap.NoLimit := e0.mod.nolimit.keeps fun b o e => (e0.bs b o e).1
  have hkind : ∀ y ∈ ps.zip us, scope.names.lookup y.1 = some .local ∨ (scope.names.lookup y.1 = some .cell ∧ ((cellsFrom (s.heap.objs.size + 1) scope.names []).lookup y.1).isSome = true) := fun ⟨n, v⟩ hy => by
    rcases S.par n (List.of_mem_zip hy).1 with q | q
    · exact .inl q
    · exact .inr ⟨q, PySem.W.cellsFrom_some _ _ _ (.inl q)⟩
  refine codeAny_call_function hr.depth (KX _ _ lk) rfl S.co S.gen rfl (PySem.W.codeRec_of KX hcd) (hb _ _ _ _ ?_)
  refine wpAny_newFunctionEnv_cells S.kind hkind fun env he s1 x => ?_
  subst he
  refine ⟨lim.keeps x.toInCall.keep, codeAny_func ?_⟩
  obtain ⟨t, ht, hq⟩ := hbody A outer s H vs Q E (hr.deeper _) hsp
  have I : Inv (cxOf CX P w K mg base N qual scope f cdv A outer s H E) [] (start N vs) H s1 := inv_start S hr.hd e0 hl r x
  refine wpAny_mono (ht [] s1 (start N vs) H _ I hq) (fun fl s' hs => ?_) fun e s' hs => hs
  have fin : ∀ {σ' : St} {H' : Hp} {v : V} {u : Value}, Inv (cxOf CX P w K mg base N qual scope f cdv A outer s H E) [] σ' H' s' → RelV v u → Q v H' → CE outer P w H s Q u s' :=
    fun {σ' H' v u} J rv q => ⟨v, H', J.os, J.bare, J.base, J.hok, rv, q⟩
  cases fl with
  | ret u =>
    obtain ⟨v, σ', H', J, rv, q⟩ := hs
    exact fin J rv q
  | next =>
    obtain ⟨σ', H', J, q⟩ := hs
    exact fin (v := V.non) (u := Value.none) J rfl q
  | brk =>
    obtain ⟨_, _, _, q⟩ := hs
    exact False.elim q
  | cont =>
    obtain ⟨_, _, _, q⟩ := hs
    exact False.elim q
end L2

namespace L2
open PySem PySem.Spec PyProof.Rows
section
variable {X : Cx} {x : Str} {p pos : Pos} {e : Expr} {es : List Expr} {t : TA} {id T : String} {r : List V → Hp → VK → Prop}

def tCB (r : List V → Hp → VK → Prop) (t : TA) : TE := fun σ H Q => t σ H fun vs H1 => r vs H1 Q
/-- f(e, ..), f a built-in function -/
theorem pe_callB (hc : CallR X (.builtin id) r) (hg : Gl X x) (hm : X.mg x = none) (hv : bootBuiltins x = some (.builtin id)) (ha : PA X (e :: es) t) (hn : x ≠ "__name__" := by decide) (hdb : (x == ("__debug__" : Str)) = false := by decide)
    (he : starEach (e :: es) X.env = (false, eval e X.env) :: starEach es X.env := by rfl) (hpl : (backTo pos (starEach es X.env)).any (·.1) = false := by rfl) : PE X (.Call (.Name x p) (e :: es) [] pos) (tCB r t) := by
  intro pins s σ H Q I h
  refine wpAny_Call_Name_kw (ld_blt I hg hm hv ?_ hn hdb)
  exact PyProof.Rows.callWith_builtin1 (thn (ha pos pins s σ H _ I h) fun us s1 ⟨vs, H1, I1, r1, q1⟩ => hc pins s1 σ H1 vs us Q I1 r1 q1) he hpl
/-- T(e, ..), T a built-in type -/
theorem pe_callTy (hc : CallR X (.type T) r) (hg : Gl X x) (hm : X.mg x = none) (hv : bootBuiltins x = some (.type T)) (ha : PA X (e :: es) t) (hn : x ≠ "__name__" := by decide) (hdb : (x == ("__debug__" : Str)) = false := by decide)
    (he : starEach (e :: es) X.env = (false, eval e X.env) :: starEach es X.env := by rfl) (hpl : (backTo pos (starEach es X.env)).any (·.1) = false := by rfl) : PE X (.Call (.Name x p) (e :: es) [] pos) (tCB r t) := by
  intro pins s σ H Q I h
  refine wpAny_Call_Name_kw (ld_blt I hg hm hv ?_ hn hdb)
  exact PyProof.Rows.callWith_type1 (thn (ha pos pins s σ H _ I h) fun us s1 ⟨vs, H1, I1, r1, q1⟩ => hc pins s1 σ H1 vs us Q I1 r1 q1) he hpl
/-- T() -/
theorem pe_callTy0 (hc : CallR X (.type T) r) (hg : Gl X x) (hm : X.mg x = none) (hv : bootBuiltins x = some (.type T)) (hn : x ≠ "__name__" := by decide) (hdb : (x == ("__debug__" : Str)) = false := by decide) :
    PE X (.Call (.Name x p) [] [] pos) (tCB r tNil) := by
  intro pins s σ H Q I h
  refine wpAny_Call_Name_kw (ld_blt I hg hm hv ?_ hn hdb)
  exact PyProof.Rows.callWith_type0 (hc pins s σ H [] [] Q I .nil h)
end
end L2

namespace HT
open PySem PyProof.Rows

/-- t < u of tuples of ints -/
def lexLt : List Int → List Int → Bool
  | [], [] => false
  | [], _ :: _ => true
  | _ :: _, [] => false
  | x :: xs, y :: ys => if x = y then lexLt xs ys else decide (x < y)
theorem lexLt_cons (x y : Int) (xs ys : List Int) : lexLt (x :: xs) (y :: ys) = if x = y then lexLt xs ys else decide (x < y) := rfl
theorem lexLt_nil_nil : lexLt [] [] = false := rfl
theorem lexLt_nil_cons (y : Int) (ys : List Int) : lexLt [] (y :: ys) = true := rfl
theorem lexLt_cons_nil (x : Int) (xs : List Int) : lexLt (x :: xs) [] = false := rfl

theorem eqAt_int (A : Around) (s : Shared) (a : Int) (t : Tok) (c : Int) (u : Tok) : ∃ e, SeqAt.EqAt A s (.int a t) (.int c u) e ∧ (e = true ↔ a = c) :=
  ⟨(a == c), SeqAt.EqAt.int_int a t c u, by simp⟩
theorem rcLt_int (A : Around) (s : Shared) (a : Int) (t : Tok) (c : Int) (u : Tok) (prog : Program) (w : World) (E : Value → Shared → Prop) (Q : Value → Shared → Prop) (h : Q (.bool (decide (a < c))) s) :
    wpAny (model prog w) A (richCompare .Lt (.int a t) (.int c u)) Q E s :=
  (PyProof.Rows.lt_int h : wpAny (model prog w) A (compareOp .Lt (.int a t) (.int c u)) Q E s)

section
open PySem.SeqAt
open PySem.AutoSeq1 (wpAny_loadPart')
open PySem.MeetsSeq PySem.MeetsSeq2 PySem.MeetsSeq3

theorem tuple_lt_ints (l b : Addr) (items items2 : Array Value) (n n2 : Nat) (dd dd2 : Option Addr) (sl sl2 : Array (Option Value)) (ns ms : List Int) (hi : IntsAre items.toList ns) (hj : IntsAre items2.toList ms) :
    Meets (Builtin.«tuple.__lt__» ⟨[.ref l, .ref b], []⟩)
      (fun _ R s => s.heap.get? l = some { cls := .type "tuple", dict := dd, data := .seq items n, slots := sl } ∧ s.heap.get? b = some { cls := .type "tuple", dict := dd2, data := .seq items2 n2, slots := sl2 } ∧
        R (.ok (.ret (.bool (lexLt ns ms)))) s) :=
  .of_wp fun prog w A R s h => by
    obtain ⟨hp, g, d, tk, os⟩ := s; obtain ⟨hl, hb, h⟩ := h
    have f2 := AutoSeq1.sub_tuple_tuple
    have z1 : items.size = ns.length := by rw [← hi.length]; simp
    have z2 : items2.size = ms.length := by rw [← hj.length]; simp
    wp_walk using wpAny_loadPart' hl, wpAny_loadPart' hb, wpAny_forIn_list _ (fun rest b s' => b.1 = none ∧ s' = ⟨hp, g, d, tk, os⟩ ∧ ∃ (vs ws : List Value) (ns' ms' : List Int), rest = vs.zip ws ∧
      IntsAre vs ns' ∧ IntsAre ws ms' ∧ ns'.length + items2.size = ms'.length + items.size ∧ R (.ok (.ret (.bool (lexLt ns' ms')))) ⟨hp, g, d, tk, os⟩) _
    case turn =>
      rintro ⟨y, x⟩ rest b s' ⟨hb', rfl, vs, ws, ns', ms', hz, hvi, hwi, hlen, hR⟩
      cases hvi with
      | nil => rw [List.zip_nil_left] at hz; cases hz
      | cons a t hvi' =>
        cases hwi with
        | nil => rw [List.zip_nil_right] at hz; cases hz
        | cons c u hwi' =>
          rw [List.zip_cons_cons] at hz
          injection hz with hyx hrest
          injection hyx with hy hx
          subst hy hx
          rw [lexLt_cons] at hR
          simp only [List.length_cons] at hlen
          obtain ⟨e, he, hiff⟩ := eqAt_int A.in1 ⟨hp, g, d, tk, os⟩ a t c u
          refine wpAny_bind (he prog w _ _ ?_)
          cases e with
          | true =>
            rw [if_pos (hiff.mp rfl)] at hR
            wp_walk
            exact ⟨rfl, rfl, _, _, _, _, hrest, hvi', hwi', by omega, hR⟩
          | false =>
            rw [if_neg (fun q => absurd (hiff.mpr q) Bool.false_ne_true)] at hR
            have hri := rcLt_int A.in1 ⟨hp, g, d, tk, os⟩ a t c u prog w
            wp_walk using hri
            exact ⟨_, rfl, by simpa using hR⟩
    case fin =>
      rintro ⟨b1, b2⟩ s' ⟨hb', rfl, vs, ws, ns', ms', hz, hvi, hwi, hlen, hR⟩
      simp only at hb'
      subst hb'
      have hv : lexLt ns' ms' = decide (items.size < items2.size) := by
        cases hvi with
        | nil =>
          cases hwi with
          | nil =>
            simp only [List.length_nil] at hlen
            rw [lexLt_nil_nil]
            exact (decide_eq_false (by omega)).symm
          | cons c u hw =>
            simp only [List.length_nil, List.length_cons] at hlen
            rw [lexLt_nil_cons]
            exact (decide_eq_true (by omega)).symm
        | cons a t hv =>
          cases hwi with
          | nil =>
            simp only [List.length_nil, List.length_cons] at hlen
            rw [lexLt_cons_nil]
            exact (decide_eq_false (by omega)).symm
          | cons c u hw =>
            rw [List.zip_cons_cons] at hz
            cases hz
      rw [hv] at hR
      wp_walk
      exact ⟨_, rfl, by simpa [Builtin.Tuple.tupleCompareSizes] using hR⟩
    case h =>
      exact ⟨rfl, rfl, items.toList, items2.toList, ns, ms, rfl, hi, hj, by omega, h⟩
end

section
variable {prog : Program} {w : World} {A : Around} {E : Value → Shared → Prop} {s : Shared}

theorem lt_tupInts {l b : Addr} {items items2 : Array Value} {ns ms : List Int} {Q : Value → Shared → Prop} (hl : IsTup s.heap l items) (hb : IsTup s.heap b items2) (hi : IntsAre items.toList ns) (hj : IntsAre items2.toList ms)
    (hu : A.units < cLine) (h : Q (.bool (lexLt ns ms)) s) : wpAny (model prog w) A (compareOp .Lt (.ref l) (.ref b)) Q E s := by
  obtain ⟨⟨cls, dd, data, sl⟩, ho, hc, n, hd⟩ := id hl
  obtain ⟨⟨cls2, dd2, data2, sl2⟩, ho2, hc2, n2, hd2⟩ := id hb
  simp only at hc hd hc2 hd2
  subst hc hd hc2 hd2
  exact richCompare_meets_room (op := .Lt) ⟨_, ho, rfl⟩ ⟨_, ho2, rfl⟩ PySem.F.slot_tuple_lt PySem.F.entry_tuple_lt (PySem.F.args_tuple_lt_2 _ _) (tuple_lt_ints l b items items2 n n2 dd dd2 sl sl2 ns ms hi hj)
    ⟨ho, ho2, show Value.bool (lexLt ns ms) ≠ Value.notImplemented ∧ Q (.bool (lexLt ns ms)) s from ⟨(fun x => nomatch x), h⟩⟩ hu

/-- t + u, t not empty -/
theorem cat_tup {t b : Addr} {vs ws : List Value} {Q : Value → Shared → Prop} (ht : IsTup s.heap t vs.toArray) (hb : IsTup s.heap b ws.toArray) (hv : vs ≠ [])
    (h1 : ws = [] → Q (.ref t) s) (h2 : ws ≠ [] → Q (.ref s.heap.objs.size) { s with heap := s.heap.push { cls := .type "tuple", data := .seq (vs ++ ws).toArray } })
    (hsz : vs.length + ws.length ≤ sizeLine) : wpAny (model prog w) A (binaryOp .Add (.ref t) (.ref b)) Q E s := by
  obtain ⟨⟨cls, dd, data, sl⟩, ho, hc, n, hd⟩ := id ht
  obtain ⟨⟨cls2, dd2, data2, sl2⟩, ho2, hc2, n2, hd2⟩ := id hb
  simp only at hc hd hc2 hd2
  subst hc hd hc2 hd2
  have e : vs.toArray ++ ws.toArray = (vs ++ ws).toArray := by simp
  by_cases hw : ws = []
  · exact concat_meets ⟨_, ho, rfl⟩ ⟨_, ho2, rfl⟩ noFill_tuple_add seq_tuple_add PySem.F.slot_tuple_add PySem.F.entry_tuple_add (PySem.F.args_tuple_add_2 _ _)
      (tuple_addW1 t b vs.toArray ws.toArray n n2 dd dd2 sl sl2 (by simpa using hv) (by simp [hw])) ⟨ho, ho2, h1 hw⟩
  · refine concat_meets ⟨_, ho, rfl⟩ ⟨_, ho2, rfl⟩ noFill_tuple_add seq_tuple_add PySem.F.slot_tuple_add PySem.F.entry_tuple_add (PySem.F.args_tuple_add_2 _ _)
      (tuple_addW2 t b vs.toArray ws.toArray n n2 dd dd2 sl sl2 (by simpa using hv) (by simpa using hw) (by rw [List.size_toArray, List.size_toArray]; exact hsz)) ⟨ho, ho2, ?_⟩
    rw [e]
    exact h2 hw

/-! ### t[a:b], not the whole -/
/-- a slice's bound as a place among n (d where it is left out) -/
def sIx (n d : Nat) : Option Int → Nat
  | none => d
  | some v => if v < 0 then (v + (n : Int)).toNat else min v.toNat n
theorem sIx_none (n d : Nat) : sIx n d none = d := rfl
theorem sIx_nat (n d k : Nat) : sIx n d (some (k : Int)) = min k n := by
  show (if (k : Int) < 0 then ((k : Int) + (n : Int)).toNat else min (k : Int).toNat n) = min k n
  rw [if_neg (by omega), Int.toNat_natCast]
theorem sIx_le (n d : Nat) (hd : d ≤ n) (o : Option Int) : sIx n d o ≤ n := by
  cases o with
  | none => exact hd
  | some v =>
    show (if v < 0 then (v + (n : Int)).toNat else min v.toNat n) ≤ n
    by_cases hv : v < 0
    · rw [if_pos hv]; omega
    · rw [if_neg hv]; exact Nat.min_le_right _ _
theorem clip_eq (v : Int) (n d : Nat) : (if v < 0 then max (v + (n : Int)) 0 else min v (n : Int)) = ((sIx n d (some v) : Nat) : Int) := by
  show (if v < 0 then max (v + (n : Int)) 0 else min v (n : Int)) = (((if v < 0 then (v + (n : Int)).toNat else min v.toNat n) : Nat) : Int)
  by_cases hv : v < 0
  · simp only [if_pos hv]; omega
  · simp only [if_neg hv]; omega
theorem adjust_gen (lo hi : Option Int) (n : Nat) : Builtin.Slice.sliceAdjust lo hi 1 (n : Int) = (((sIx n 0 lo : Nat) : Int), ((sIx n n hi : Nat) : Int)) := by
  have h1 : ¬ ((1 : Int) < 0) := by omega
  unfold Builtin.Slice.sliceAdjust
  simp only [h1, if_false]
  refine Prod.ext ?_ ?_
  · cases lo with
    | none => rfl
    | some v => exact clip_eq v n 0
  · cases hi with
    | none => rfl
    | some v => exact clip_eq v n n
theorem places_gen (i j : Nat) : Builtin.Slice.slicePlaces (i : Int) (j : Int) 1 = j - i := by
  unfold Builtin.Slice.slicePlaces
  have h1 : (1 : Int) > 0 := by omega
  simp only [h1, if_true, Int.ediv_one]
  split <;> omega
theorem slicePart_ {v : Value} {o : Option Int} {Q : Option Int → Shared → Prop} (p : IsPart v o) (h : Q o s) : wpAny (model prog w) A (Builtin.Slice.slicePartIndex v) Q E s := by
  cases p with
  | none => exact slicePart_none h
  | int i t => exact slicePart_int h
theorem sliceApplied_gen {sl : Addr} {vl vu : Value} {lo hi : Option Int} {n : Nat} {Q : Int × Int × Nat → Shared → Prop} (hs : s.heap.IsSliceOf sl vl vu .none) (pl : IsPart vl lo) (pu : IsPart vu hi)
    (h : Q (((sIx n 0 lo : Nat) : Int), 1, sIx n n hi - sIx n 0 lo) s) : wpAny (model prog w) A (Builtin.Slice.sliceApplied (.ref sl) (pure (n : Int))) Q E s := by
  obtain ⟨os, hos, hcs, hds⟩ := id hs
  unfold Builtin.Slice.sliceApplied Builtin.Slice.sliceFields
  refine wpAny_bind (wpAny_bind (wpAny_field hos hds (x := vl) rfl (wpAny_bind (wpAny_field hos hds (x := vu) rfl (wpAny_bind (wpAny_field hos hds (x := .none) rfl (wpAny_pure ?_)))))))
  refine wpAny_bind (slicePart_none ?_)
  show wpAny _ _ (if ((1 : Int) == 0) = true then _ else _) _ _ s
  rw [if_neg (by decide)]
  refine wpAny_bind (slicePart_ pl (wpAny_bind (slicePart_ pu (wpAny_bind (wpAny_pure ?_)))))
  show wpAny _ _ (match Builtin.Slice.sliceAdjust lo hi 1 (n : Int) with | (lo, hi) => pure (lo, (1 : Int), Builtin.Slice.slicePlaces lo hi 1)) _ _ s
  rw [adjust_gen lo hi n]
  show wpAny _ _ (pure (((sIx n 0 lo : Nat) : Int), (1 : Int), Builtin.Slice.slicePlaces ((sIx n 0 lo : Nat) : Int) ((sIx n n hi : Nat) : Int) 1)) _ _ s
  rw [places_gen]
  exact wpAny_pure h
theorem pick_gen (xs : Array Value) (i k : Nat) : ((List.range k).filterMap fun (m : Nat) => xs[((i : Int) + (m : Int) * 1).toNat]?).toArray = ((xs.toList.drop i).take k).toArray := by
  have e : (fun (m : Nat) => xs[((i : Int) + (m : Int) * 1).toNat]?) = fun m => xs[i + m]? := by
    funext m
    have : ((i : Int) + (m : Int) * 1).toNat = i + m := by omega
    rw [this]
  rw [e]
  have := pick_run xs i k
  rw [List.filterMap_map] at this
  have e2 : ((fun x => xs[x]?) ∘ fun x => i + x) = fun m => xs[i + m]? := rfl
  rw [e2] at this
  rw [this]

theorem getItem_tuple_cut {t sl : Addr} {items : Array Value} {vl vu : Value} {lo hi : Option Int} {Q : Value → Shared → Prop} (ht : IsTup s.heap t items) (hs : s.heap.IsSliceOf sl vl vu .none) (pl : IsPart vl lo) (pu : IsPart vu hi)
    (hw : ¬ (sIx items.size 0 lo = 0 ∧ sIx items.size items.size hi = items.size))
    (h : Q (.ref s.heap.objs.size) { s with heap := s.heap.push { cls := .type "tuple", data := .seq ((items.toList.drop (sIx items.size 0 lo)).take (sIx items.size items.size hi - sIx items.size 0 lo)).toArray } })
    (hsz : items.size ≤ sizeLine) : wpAny (model prog w) A (getItem (.ref t) (.ref sl)) Q E s := by
  have htake : sizeOk (.seq ((items.toList.drop (sIx items.size 0 lo)).take (sIx items.size items.size hi - sIx items.size 0 lo)).toArray) := by
    show ((items.toList.drop (sIx items.size 0 lo)).take (sIx items.size items.size hi - sIx items.size 0 lo)).toArray.size ≤ sizeLine
    rw [List.size_toArray, List.length_take, List.length_drop, Array.length_toList]
    omega
  have hj : sIx items.size items.size hi ≤ items.size := sIx_le _ _ (Nat.le_refl _) hi
  obtain ⟨os, hos, hcs, hds⟩ := id hs
  have hTs : s.TypeIs (.ref sl) "slice" := ⟨os, hos, hcs⟩
  unfold getItem
  try with_reducible refine wpAny_holding ?_
  first | refine wpAny_bind (wpAny_pure ?_) | skip
  refine wpAny_bind (wpAny_sequenceKey ht.typeIs (by decide) ?_)
  refine wpAny_bind (wpAny_callSpecial?_slot (name := Str.ofString "__getitem__") ht.typeIs PyProof.Rows.slot_tuple_getitem
    (wpAny_call_entry PyProof.Rows.slot_tuple_getitem ht.typeIs entry_tuple_getitem ?_ (args_tuple_getitem _ _)))
  show wpAny _ _ (Builtin.Tuple.tupleItemsOf (.ref t) >>= _) _ _ s
  refine wpAny_bind (tupleItemsOf_ ht ?_)
  refine wpAny_bind (wpAny_typeOf hTs ?_)
  rw [if_pos (by decide)]
  refine wpAny_bind (sliceApplied_gen hs pl pu ?_)
  have hno : ¬ ((((sIx items.size 0 lo : Nat) : Int) == 0 && (1 : Int) == 1 && (sIx items.size items.size hi - sIx items.size 0 lo) == items.size) = true) := by
    intro q
    rw [Bool.and_eq_true, Bool.and_eq_true] at q
    have q1 : ((sIx items.size 0 lo : Nat) : Int) = 0 := eq_of_beq q.1.1
    have q2 : sIx items.size items.size hi - sIx items.size 0 lo = items.size := eq_of_beq q.2
    exact hw ⟨by omega, by omega⟩
  show wpAny _ _ (if (((sIx items.size 0 lo : Nat) : Int) == 0 && (1 : Int) == 1 && (sIx items.size items.size hi - sIx items.size 0 lo) == items.size) = true then _ else _) _ _ s
  rw [if_neg hno, pick_gen]
  first
    | exact wpAny_bind (m := Builtin.Tuple.tupleExact _) (wpAny_newObj_type (wpAny_pure ⟨_, rfl, wpAny_pure h⟩) htake)
    | exact wpAny_bind (m := Builtin.Tuple.tupleExact _) (wpAny_newObj_type (wpAny_bind (wpAny_pure (wpAny_pure ⟨_, rfl, wpAny_pure h⟩))) htake)
    | exact wpAny_bind (wpAny_bind (m := Builtin.Tuple.tupleExact _) (wpAny_newObj_type (wpAny_pure (wpAny_pure ⟨_, rfl, wpAny_pure h⟩)) htake))
    | exact wpAny_bind (wpAny_bind (m := Builtin.Tuple.tupleExact _) (wpAny_newObj_type (wpAny_pure ⟨_, rfl, wpAny_pure h⟩) htake))
end
end HT

namespace L2
open PySem PySem.Spec PyProof.Rows

/-! ### the parts of a slice -/
abbrev TO := St → Hp → (Option Int → Hp → Prop) → Prop
/-- a slice's part (left out, or an int) -/
def PO (X : Cx) (e : Option Expr) (t : TO) : Prop :=
  ∀ (pins : List (Addr × Obj)) (s : Shared) (σ : St) (H : Hp) (Q : Option Int → Hp → Prop), Inv X pins σ H s → t σ H Q →
    wpAny (model X.prog X.w) X.A (evalPart e X.env) (fun u s' => ∃ o H', Inv X pins σ H' s' ∧ IsPart u o ∧ Q o H') X.xe s
def tNoPart : TO := fun _ H Q => Q none H
def tPart (t : TE) : TO := fun σ H Q => t σ H fun x H1 => ∃ i, x = .int i ∧ Q (some i) H1

theorem intsAre_of {ns : List Int} : ∀ {us : List Value}, Vals (ns.map V.int) us → IntsAre us ns := by
  induction ns with
  | nil => intro us r; rw [List.map_nil] at r; cases r; exact .nil
  | cons n ns ih =>
    intro us r
    rw [List.map_cons] at r
    cases r with
    | cons r1 r2 =>
      obtain ⟨t, e⟩ := r1
      subst e
      exact .cons n t (ih r2)

section
variable {X : Cx} {e : Expr} {te : TE} {lo hi : Option Expr} {tl th : TO} {pos p2 : Pos}

theorem po_none : PO X none tNoPart := by
  intro pins s σ H Q I h
  rw [evalPart_none]
  exact wpAny_pure ⟨none, H, I, .none, h⟩
theorem po_some (h : PE X e te) : PO X (some e) (tPart te) := by
  intro pins s σ H Q I hw
  rw [evalPart_some]
  refine thn (h pins s σ H _ I hw) fun u s1 ⟨x, H1, I1, r1, q1⟩ => ?_
  obtain ⟨i, rfl, q⟩ := q1
  obtain ⟨t, rfl⟩ := r1
  exact ⟨some i, H1, I1, .int i t, q⟩

/-- what a slice of a value is, by values: the slice object stands at sl -/
def SlR (X : Cx) (r : V → Option Int → Option Int → Hp → VK → Prop) : Prop :=
  ∀ (pins : List (Addr × Obj)) (s : Shared) (σ : St) (H : Hp) (x : V) (v vl vu : Value) (lo hi : Option Int) (sl : Addr) (Q : VK), Inv X pins σ H s → RelV x v → s.heap.IsSliceOf sl vl vu .none → IsPart vl lo → IsPart vu hi → r x lo hi H Q →
    ∃ T id, typeLookup (.type T) "__getitem__" = pure (some (.builtin id)) ∧ s.TypeIs v T ∧ wpAny (model X.prog X.w) X.A (getItem v (.ref sl)) (EP X pins σ Q) X.xe s
theorem SlR.or {r r' : V → Option Int → Option Int → Hp → VK → Prop} (h : SlR X r) (h' : SlR X r') : SlR X (fun x lo hi H Q => r x lo hi H Q ∨ r' x lo hi H Q) := by
  intro pins s σ H x v vl vu lo hi sl Q I rx hs pl pu q
  rcases q with q | q
  · exact h pins s σ H x v vl vu lo hi sl Q I rx hs pl pu q
  · exact h' pins s σ H x v vl vu lo hi sl Q I rx hs pl pu q
def tSl (r : V → Option Int → Option Int → Hp → VK → Prop) (te : TE) (tl th : TO) : TE := fun σ H Q => te σ H fun x H1 => tl σ H1 fun l H2 => th σ H2 fun u H3 => r x l u H3 Q
/-- a[lo:hi], any a -/
theorem pe_slice {r : V → Option Int → Option Int → Hp → VK → Prop} (hr : SlR X r) (he : PE X e te) (hl : PO X lo tl) (hu : PO X hi th) : PE X (.Subscript e (.Slice lo hi none p2) pos) (tSl r te tl th) := by
  intro pins s σ H Q I h
  refine Subscript_ (thn (he pins s σ H _ I h) fun v s1 ⟨x, H1, I1, r1, q1⟩ => ?_)
  refine wpAny_Slice (thn (hl pins s1 σ H1 _ I1 q1) fun vl s2 ⟨l, H2, I2, pl, q2⟩ => thn (hu pins s2 σ H2 _ I2 q2) fun vu s3 ⟨u, H3, I3, pu, q3⟩ => ?_)
  rw [evalPart_none]
  refine wpAny_pure ?_
  have I4 : Inv X pins σ H3 { s3 with heap := s3.heap.push { cls := .type "slice", data := .fields #[vl, vu, .none] } } := I3.kept (t' := s3.toks) fun b ob q => Heap.get?_push_of_some _ q
  obtain ⟨T, id, hT, ht, hg⟩ := hr pins { s3 with heap := s3.heap.push { cls := .type "slice", data := .fields #[vl, vu, .none] } } σ H3 x v vl vu l u s3.heap.objs.size Q I4 r1 (Heap.IsSliceOf.new ..) pl pu q3
  show wpAny (model X.prog X.w) X.A (subscriptTail e (.Slice lo hi none p2) v (.ref s3.heap.objs.size)) (EP X pins σ Q) X.xe { s3 with heap := s3.heap.push { cls := .type "slice", data := .fields #[vl, vu, .none] } }
  exact tail_any (ops := [.ref s3.heap.objs.size, v]) ht hT hg (by with_unfolding_all rfl)

/-- the items of xs[lo:hi] -/
def cutV (xs : List V) (lo hi : Option Int) : List V := (xs.drop (HT.sIx xs.length 0 lo)).take (HT.sIx xs.length xs.length hi - HT.sIx xs.length 0 lo)
theorem cutV_length (xs : List V) (lo hi : Option Int) : (cutV xs lo hi).length ≤ xs.length := by
  unfold cutV
  rw [List.length_take, List.length_drop]
  omega
/-- t[lo:hi], not the whole of it (the whole would be t itself) -/
def rSlT (K : PySem.W.Frag) : V → Option Int → Option Int → Hp → VK → Prop := fun x lo hi H Q => ∃ a xs, x = .ref a ∧ SqT K H a xs ∧
  ¬ (HT.sIx xs.length 0 lo = 0 ∧ HT.sIx xs.length xs.length hi = xs.length) ∧ ∀ p, H p = none → Q (.ref p) (upd H p (.tup (cutV xs lo hi)))
theorem sl_tup : SlR X (rSlT X.K) := by
  intro pins s σ H x v vl vu lo hi sl Q I rx hs pl pu h
  obtain ⟨a, xs, rfl, hx, hw, q⟩ := h
  cases rx
  obtain ⟨its, r, ht, hz⟩ := I.tuple hx
  have hlen : its.toArray.size = xs.length := by rw [List.size_toArray]; exact r.length.symm
  refine ⟨"tuple", _, PyProof.Rows.slot_tuple_getitem.lookup, ht.typeIs, ?_⟩
  refine HT.getItem_tuple_cut ht hs pl pu (by rw [hlen]; exact hw) ?_ (by rw [hlen]; exact hz)
  rw [hlen]
  refine ⟨.ref s.heap.objs.size, _, I.laid (t' := s.toks) (o := .tup (cutV xs lo hi)) (fun b ob q => Heap.get?_push_of_some _ q) (Nat.le_refl _) ?_, rfl, q _ (I.hok.fresh (Nat.le_refl _))⟩
  exact ⟨Nat.le_trans (cutV_length xs lo hi) hz, _, (r.drop (HT.sIx xs.length 0 lo)).take (HT.sIx xs.length xs.length hi - HT.sIx xs.length 0 lo), IsTup.new _ _⟩

/-! ### t < u, t + u -/
def rLtT (K : PySem.W.Frag) : R2 := fun x y H Q => ∃ a b ns ms, x = .ref a ∧ y = .ref b ∧ SqT K H a (ns.map V.int) ∧ SqT K H b (ms.map V.int) ∧ Q (.bl (HT.lexLt ns ms)) H
theorem op_ltT (hu : X.A.units < cLine) : OpR X (compareOp .Lt) (rLtT X.K) := by
  intro pins s σ H x y v u Q I rx ry h
  obtain ⟨a, b, ns, ms, rfl, rfl, ha, hb, q⟩ := h
  cases rx
  cases ry
  obtain ⟨its, r1, p1, _⟩ := I.tuple ha
  obtain ⟨its2, r2, p2, _⟩ := I.tuple hb
  have i1 : IntsAre its.toArray.toList ns := intsAre_of r1
  have i2 : IntsAre its2.toArray.toList ms := intsAre_of r2
  exact HT.lt_tupInts p1 p2 i1 i2 hu ⟨.bl (HT.lexLt ns ms), H, I, rfl, q⟩
/-- t + u, t not empty: u empty gives t itself -/
def rCatT (K : PySem.W.Frag) : R2 := fun x y H Q => ∃ a b xs ys, x = .ref a ∧ y = .ref b ∧ SqT K H a xs ∧ SqT K H b ys ∧ xs ≠ [] ∧ xs.length + ys.length ≤ sizeLine ∧
  (ys = [] → Q (.ref a) H) ∧ (ys ≠ [] → ∀ p, H p = none → Q (.ref p) (upd H p (.tup (xs ++ ys))))
theorem Vals.nil_iff {xs : List V} {us : List Value} (r : Vals xs us) : us = [] ↔ xs = [] := by
  cases r with
  | nil => simp
  | cons _ _ => simp
theorem op_catT : OpR X (binaryOp .Add) (rCatT X.K) := by
  intro pins s σ H x y v u Q I rx ry h
  obtain ⟨a, b, xs, ys, rfl, rfl, ha, hb, hx, hz, q1, q2⟩ := h
  cases rx
  cases ry
  obtain ⟨its, r1, p1, _⟩ := I.tuple ha
  obtain ⟨its2, r2, p2, _⟩ := I.tuple hb
  refine HT.cat_tup p1 p2 (fun z => hx (r1.nil_iff.mp z)) (fun z => ⟨.ref a, H, I, rfl, q1 (r2.nil_iff.mp z)⟩) (fun z => ?_) (by rw [← r1.length, ← r2.length]; exact hz)
  refine ⟨.ref s.heap.objs.size, _, I.laid (t' := s.toks) (o := .tup (xs ++ ys)) (fun b ob q => Heap.get?_push_of_some _ q) (Nat.le_refl _) ?_, rfl, q2 (fun w => z (r2.nil_iff.mpr w)) _ (I.hok.fresh (Nat.le_refl _))⟩
  exact ⟨by rw [List.length_append]; exact hz, _, r1.append r2, IsTup.new _ _⟩
/-- tuple(t) -/
theorem call_tupleT : CallR X (.type "tuple") (fun xs H Q => ∃ a ys, xs = [.ref a] ∧ SqT X.K H a ys ∧ Q (.ref a) H) := by
  intro pins s σ H xs us Q I r h
  obtain ⟨a, ys, rfl, ha, q⟩ := h
  obtain ⟨u, rfl, ru⟩ := vals1 r
  cases ru
  obtain ⟨its, _, p1, _⟩ := I.tuple ha
  exact call_tuple_same (items := its.toArray) p1 ⟨.ref a, H, I, rfl, q⟩
end
end L2

namespace L2
open PySem PySem.Spec PyProof.Rows

/-! ### places -/
/-- the place that an index of any sign means -/
def ixN (n : Nat) (i : Int) : Option Nat := if 0 ≤ i then (if i < n then some i.toNat else none) else if -(n : Int) ≤ i then some (i + n).toNat else none
def atI {α : Type} (xs : List α) (i : Int) : Option α := (ixN xs.length i).bind fun j => xs[j]?
theorem ixN_seq {n : Nat} {i : Int} {j : Nat} (h : ixN n i = some j) : seqIndex? i n = some j ∧ j < n ∧ -(n : Int) ≤ i ∧ i < n := by
  unfold ixN at h
  by_cases h0 : 0 ≤ i
  · rw [if_pos h0] at h
    by_cases h1 : i < n
    · rw [if_pos h1] at h
      have e : i.toNat = j := Option.some.inj h
      exact ⟨by rw [seqIndex_of h0 h1, e], by omega, by omega, h1⟩
    · rw [if_neg h1] at h; cases h
  · rw [if_neg h0] at h
    by_cases h1 : -(n : Int) ≤ i
    · rw [if_pos h1] at h
      have e : (i + n).toNat = j := Option.some.inj h
      exact ⟨by rw [seqIndex_neg (by omega) h1, e], by omega, h1, by omega⟩
    · rw [if_neg h1] at h; cases h
theorem atI_get {α : Type} {xs : List α} {i : Int} {v : α} (h : atI xs i = some v) : ∃ j, seqIndex? i xs.length = some j ∧ xs[j]? = some v ∧ j < xs.length ∧ -(xs.length : Int) ≤ i ∧ i < xs.length := by
  unfold atI at h
  cases e : ixN xs.length i with
  | none => rw [e] at h; cases h
  | some j =>
    rw [e] at h
    obtain ⟨h1, h2, h3, h4⟩ := ixN_seq e
    exact ⟨j, h1, h, h2, h3, h4⟩
theorem atI_nat {α : Type} {xs : List α} {j : Nat} {v : α} (h : xs[j]? = some v) : atI xs (j : Int) = some v := by
  have hj : j < xs.length := (List.getElem?_eq_some_iff.mp h).1
  have e : ixN xs.length (j : Int) = some j := by
    unfold ixN
    rw [if_pos (by omega), if_pos (by omega)]; simp
  unfold atI; rw [e]; exact h
theorem atI_last {α : Type} (xs : List α) (v : α) : atI (xs ++ [v]) (-1) = some v := by
  have hl : (xs ++ [v]).length = xs.length + 1 := by simp
  have e : ixN (xs ++ [v]).length (-1) = some xs.length := by
    unfold ixN
    rw [hl, if_neg (by decide), if_pos (by omega)]
    congr 1
    omega
  unfold atI
  rw [e]
  show (xs ++ [v])[xs.length]? = some v
  simp

/-! ### what may be subscripted -/
/-- what stands as an index of a plain subscript -/
def PlainIx (b : Expr) : Prop := ∀ o i, subscripted b false o i = operate [o, i] (getItem o i)
/-- a subscript by values -/
def IxR (X : Cx) (r : R2) : Prop :=
  ∀ (value slice : Expr) (pins : List (Addr × Obj)) (s : Shared) (σ : St) (H : Hp) (x y : V) (v u : Value) (Q : VK), Inv X pins σ H s → RelV x v → RelV y u → r x y H Q →
    subscripted slice false v u = operate [v, u] (getItem v u) → wpAny (model X.prog X.w) X.A (subscriptTail value slice v u) (EP X pins σ Q) X.xe s
/-- a call of a builtin's method by values: the receiver, the arguments -/
def MtR (X : Cx) (id : String) (r : V → List V → Hp → VK → Prop) : Prop :=
  ∀ (pins : List (Addr × Obj)) (s : Shared) (σ : St) (H : Hp) (x : V) (xs : List V) (v : Value) (us : List Value) (Q : VK), Inv X pins σ H s → RelV x v → Vals xs us → r x xs H Q →
    wpAny (model X.prog X.w) X.A (call (.builtin id) (v :: us)) (EP X pins σ Q) X.xe s
section
variable {X : Cx} {a b : Expr} {ta tb : TE} {pos : Pos}
theorem IxR.or {r r' : R2} (h : IxR X r) (h' : IxR X r') : IxR X (fun x y H Q => r x y H Q ∨ r' x y H Q) := by
  intro value slice pins s σ H x y v u Q I rx ry q hs
  rcases q with q | q
  · exact h value slice pins s σ H x y v u Q I rx ry q hs
  · exact h' value slice pins s σ H x y v u Q I rx ry q hs
theorem MtR.or {id : String} {r r' : V → List V → Hp → VK → Prop} (h : MtR X id r) (h' : MtR X id r') : MtR X id (fun x xs H Q => r x xs H Q ∨ r' x xs H Q) := by
  intro pins s σ H x xs v us Q I rx rs q
  rcases q with q | q
  · exact h pins s σ H x xs v us Q I rx rs q
  · exact h' pins s σ H x xs v us Q I rx rs q
/-- a[b] -/
theorem pe_ix {r : R2} (hr : IxR X r) (ha : PE X a ta) (hb : PE X b tb) (hs : PlainIx b) : PE X (.Subscript a b pos) (tOp r ta tb) := by
  intro pins s σ H Q I h
  exact Subscript_ (binT ha hb I h fun v u s2 x y H2 I2 rx ry q => hr a b pins s2 σ H2 x y v u Q I2 rx ry q (hs _ _))

def rIxL (K : PySem.W.Frag) : R2 := fun x y H Q => ∃ p xs i v, x = .ref p ∧ y = .int i ∧ SqL K H p xs ∧ atI xs i = some v ∧ Q v H
def rIxT (K : PySem.W.Frag) : R2 := fun x y H Q => ∃ p xs i v, x = .ref p ∧ y = .int i ∧ SqT K H p xs ∧ atI xs i = some v ∧ Q v H
def rIxS : R2 := fun x y H Q => ∃ z i c, x = .str z ∧ y = .int i ∧ z.length ≤ sizeLine ∧ atI z.cps.toList i = some c ∧ Q (.str ⟨#[c]⟩) H
theorem ix_list : IxR X (rIxL X.K) := by
  intro value slice pins s σ H x y v u Q I rx ry h hs
  obtain ⟨p, xs, i, z, rfl, rfl, hq, he, q⟩ := h
  cases rx
  obtain ⟨t, rfl⟩ := ry
  obtain ⟨its, r, pl, hz⟩ := I.list hq
  obtain ⟨j, h1, h2, h3, h4, h5⟩ := atI_get he
  obtain ⟨w, ew, rw'⟩ := r.get h2
  have hl := r.length
  have hn := line63
  have fin : EP X pins σ Q w s := ⟨z, H, I, rw', q⟩
  by_cases h0 : 0 ≤ i
  · have hj : i.toNat = j := by
      rw [seqIndex_of h0 h5] at h1
      exact Option.some.inj h1
    exact item_listR pl.isList h0 (by omega) (by rw [hj]; simpa using ew) fin hs
  · have hj : (i + (its.toArray.size : Int)).toNat = j := by
      rw [seqIndex_neg (by omega) h4] at h1
      rw [List.size_toArray, ← hl]
      exact Option.some.inj h1
    exact subscriptTail_builtinR (x := w) pl.isList.typeIs slot_list_getitem.lookup
      (wpAny_getItem_list_neg (Q := fun r s' => r = w ∧ EP X pins σ Q r s') pl.isList (by omega) (by rw [List.size_toArray] <;> omega) (by omega) (by rw [hj]; simpa using ew) ⟨rfl, fin⟩) hs
theorem ix_tup : IxR X (rIxT X.K) := by
  intro value slice pins s σ H x y v u Q I rx ry h hs
  obtain ⟨p, xs, i, z, rfl, rfl, hq, he, q⟩ := h
  cases rx
  obtain ⟨t, rfl⟩ := ry
  obtain ⟨its, r, pl, hz⟩ := I.tuple hq
  obtain ⟨j, h1, h2, h3, h4, h5⟩ := atI_get he
  obtain ⟨w, ew, rw'⟩ := r.get h2
  have hl := r.length
  have hn := line63
  have fin : EP X pins σ Q w s := ⟨z, H, I, rw', q⟩
  exact subscriptTail_builtinR (x := w) pl.typeIs slot_tuple_getitem.lookup
    (getItem_tuple (j := j) (Q := fun r s' => r = w ∧ EP X pins σ Q r s') pl (by omega) (by omega) (by rw [List.size_toArray, ← hl]; exact h1) (by simpa using ew) ⟨rfl, fin⟩) hs
theorem ix_str : IxR X rIxS := by
  intro value slice pins s σ H x y v u Q I rx ry h hs
  obtain ⟨z, i, c, rfl, rfl, hz, he, q⟩ := h
  obtain ⟨t, rfl⟩ := rx
  obtain ⟨t', rfl⟩ := ry
  obtain ⟨j, h1, h2, h3, h4, h5⟩ := atI_get he
  have hl : z.cps.toList.length = z.length := by simp [Str.length]
  rw [hl] at h1 h4 h5
  have hn := line63
  exact tail_any (typeIs_str s z t) slot_str_getitem.lookup (getItem_str (c := c) (by
    have e1 : decide (i < -(2 ^ 63 : Int)) = false := decide_eq_false (by omega)
    have e2 : decide (i ≥ 2 ^ 63) = false := decide_eq_false (by omega)
    rw [e1, e2, Bool.or_false]) (by rw [h1]; simpa using h2) ⟨.str ⟨#[c]⟩, H, I.tok _, ⟨_, rfl⟩, q⟩) hs
/-- list, tuple or str -/
def rIx (K : PySem.W.Frag) : R2 := fun x y H Q => rIxL K x y H Q ∨ rIxT K x y H Q ∨ rIxS x y H Q
theorem ix_seq : IxR X (rIx X.K) := ix_list.or (ix_tup.or ix_str)

/-! ### xs[i] = v, any sign -/
/-- the list's object behind a store -/
theorem mapSeq_set (its : List Value) (n j : Nat) (u : Value) : Obj.mapSeq (·.setIfInBounds j u) { cls := .type "list", data := .seq its.toArray n } = { cls := .type "list", data := .seq (its.set j u).toArray n } := by
  simp [Obj.mapSeq]
theorem Inv.lst {pins : List (Addr × Obj)} {σ : St} {H : Hp} {s : Shared} {p : Addr} {xs : List V} (I : Inv X pins σ H s) (h : H p = some (.lst xs)) :
    ∃ (its : List Value) (n : Nat), Vals xs its ∧ s.heap.get? p = some { cls := .type "list", data := .seq its.toArray n } ∧ xs.length ≤ sizeLine := by
  obtain ⟨z, its, n, r, e⟩ := I.hok p _ h
  exact ⟨its, n, r, e, z⟩
/-- the list at p is written by an update of its object -/
theorem Inv.lstUpd {pins : List (Addr × Obj)} {σ : St} {H : Hp} {s : Shared} {p : Addr} {xs ys : List V} {its its' : List Value} {n n' : Nat} {f : Obj → Obj} (I : Inv X pins σ H s) (h : H p = some (.lst xs))
    (ho : s.heap.get? p = some { cls := .type "list", data := .seq its.toArray n }) (hf : f { cls := .type "list", data := .seq its.toArray n } = { cls := .type "list", data := .seq its'.toArray n' }) (r : Vals ys its') (hz : ys.length ≤ sizeLine) (t : Nat) :
    Inv X pins σ (upd H p (.lst ys)) { s with heap := s.heap.update p f, toks := t } := by
  have e : (s.heap.update p f).get? p = some { cls := .type "list", data := .seq its'.toArray n' } := by
    rw [Heap.get?_update_self f ho (by rw [hf] <;> rfl), hf]
  refine I.write (x := p) (e := p) (by rw [h]; trivial) (.inl rfl) (fun b u hb q => (Heap.get?_update_other _ _ (Ne.symm hb)).trans q) ⟨_, e⟩ ?_
  exact ⟨hz, its', n', r, e⟩
def rSetL : V → V → V → Hp → (Hp → Prop) → Prop := fun o i v H Q => ∃ p xs k j, o = .ref p ∧ i = .int k ∧ H p = some (.lst xs) ∧ ixN xs.length k = some j ∧ Q (upd H p (.lst (xs.set j v)))
theorem set_list : PSet X rSetL := by
  intro pins s σ H o i v ov iv u Q I ro ri rv h
  obtain ⟨p, xs, k, j, rfl, rfl, hp, hj, q⟩ := h
  cases ro
  obtain ⟨t, rfl⟩ := ri
  obtain ⟨its, n, r, ho, hz⟩ := I.lst hp
  obtain ⟨h1, h2, h3, h4⟩ := ixN_seq hj
  have hl := r.length
  have hn := line63
  have I' : Inv X pins σ (upd H p (.lst (xs.set j v))) { s with heap := s.heap.update p (Obj.mapSeq (·.setIfInBounds j u)) } :=
    I.lstUpd hp ho (mapSeq_set its n j u) (r.set rv j) (by rw [List.length_set]; exact hz) s.toks
  by_cases h0 : 0 ≤ k
  · have hk : k.toNat = j := by
      rw [seqIndex_of h0 h4] at h1
      exact Option.some.inj h1
    exact PySem.W.ki_setAt ho h0 (by omega) (by rw [List.size_toArray, ← hl]; exact h4) (by rw [hk]; exact ⟨_, I', q⟩)
  · have hk : (k + (its.toArray.size : Int)).toNat = j := by
      rw [seqIndex_neg (by omega) h3] at h1
      rw [List.size_toArray, ← hl]
      exact Option.some.inj h1
    exact PySem.W.ki_setBack ho (by omega) (by rw [List.size_toArray, ← hl]; exact h3) (by omega) (by rw [hk]; exact ⟨_, I', q⟩)

/-! ### slices -/
theorem slice_bounds (lo hi : Option Int) (n : Nat) : (sliceBounds lo hi none n).1 = ((HT.sIx n 0 lo : Nat) : Int) ∧ (sliceBounds lo hi none n).2.1 = ((HT.sIx n n hi : Nat) : Int) ∧ (sliceBounds lo hi none n).2.2 = 1 := by
  refine ⟨?_, ?_, rfl⟩
  · cases lo with
    | none => simp [sliceBounds, HT.sIx]
    | some i =>
      simp only [sliceBounds, HT.sIx, Option.getD_none, show (1 : Int) > 0 by decide, if_true]
      by_cases h : i < 0
      · simp only [h, if_true] <;> omega
      · simp only [h, if_false] <;> omega
  · cases hi with
    | none => simp [sliceBounds, HT.sIx]
    | some i =>
      simp only [sliceBounds, HT.sIx, Option.getD_none, show (1 : Int) > 0 by decide, if_true]
      by_cases h : i < 0
      · simp only [h, if_true] <;> omega
      · simp only [h, if_false] <;> omega
theorem slicePick_cut (its : List Value) (lo hi : Option Int) : slicePick its.toArray lo hi none = ((its.drop (HT.sIx its.length 0 lo)).take (HT.sIx its.length its.length hi - HT.sIx its.length 0 lo)).toArray := by
  obtain ⟨h1, h2, h3⟩ := slice_bounds lo hi its.toArray.size
  unfold slicePick
  rw [h1, h2, h3]
  simp only [sliceRange_one, pick_run, List.size_toArray] <;> rfl
/-- xs[lo:hi] of a list: a new list -/
def rSlL (K : PySem.W.Frag) : V → Option Int → Option Int → Hp → VK → Prop := fun x lo hi H Q => ∃ a xs, x = .ref a ∧ SqL K H a xs ∧ ∀ p, H p = none → Q (.ref p) (upd H p (.lst (cutV xs lo hi)))
theorem sl_list : SlR X (rSlL X.K) := by
  intro pins s σ H x v vl vu lo hi sl Q I rx hs pl pu h
  obtain ⟨a, xs, rfl, hx, q⟩ := h
  cases rx
  obtain ⟨its, r, ht, hz⟩ := I.list hx
  have hlen := r.length
  refine ⟨"list", _, slot_list_getitem.lookup, ht.isList.typeIs, ?_⟩
  refine wpAny_getItem_list_slice ht.isList hs pl pu .none (by simp) ?_ (by rw [List.size_toArray] <;> omega)
  rw [slicePick_cut, ← hlen]
  refine ⟨.ref s.heap.objs.size, _, I.laid (t' := s.toks) (o := .lst (cutV xs lo hi)) (fun b ob q => Heap.get?_push_of_some _ q) (Nat.le_refl _) ?_, rfl, q _ (I.hok.fresh (Nat.le_refl _))⟩
  exact ⟨Nat.le_trans (cutV_length xs lo hi) hz, _, 0, (r.drop (HT.sIx xs.length 0 lo)).take (HT.sIx xs.length xs.length hi - HT.sIx xs.length 0 lo), Heap.get?_push_size _ rfl⟩

/-! ### in, not in: flat items -/
def flatV : V → Bool
  | .non => true
  | .bl _ => true
  | .int _ => true
  | .str _ => true
  | _ => false
/-- == of flat values -/
def eqV : V → V → Bool
  | .non, .non => true
  | .bl a, .bl b => a == b
  | .bl a, .int b => (if a then 1 else 0) == b
  | .int a, .bl b => a == (if b then 1 else 0)
  | .int a, .int b => a == b
  | .str a, .str b => a == b
  | _, _ => false
theorem eqAt_V {A : Around} {s : Shared} {y x : V} {u v : Value} (ry : RelV y u) (rx : RelV x v) (fy : flatV y = true) (fx : flatV x = true) : SeqAt.EqAt A s u v (eqV y x) := by
  cases y with
  | non =>
    cases ry
    cases x with
    | non => cases rx; exact SeqAt.EqAt.same _
    | bl b => cases rx; exact SeqAt.EqAt.none_bool b
    | int b => obtain ⟨t, rfl⟩ := rx; exact SeqAt.EqAt.none_int b t
    | str b => obtain ⟨t, rfl⟩ := rx; exact SeqAt.EqAt.none_str b t
    | _ => exact absurd (show false = true from fx) Bool.false_ne_true
  | bl a =>
    cases ry
    cases x with
    | non => cases rx; exact SeqAt.EqAt.bool_none a
    | bl b => cases rx; exact SeqAt.EqAt.bool_bool a b
    | int b => obtain ⟨t, rfl⟩ := rx; exact SeqAt.EqAt.bool_int a b t
    | str b => obtain ⟨t, rfl⟩ := rx; exact SeqAt.EqAt.bool_str a b t
    | _ => exact absurd (show false = true from fx) Bool.false_ne_true
  | int a =>
    obtain ⟨t', rfl⟩ := ry
    cases x with
    | non => cases rx; exact SeqAt.EqAt.int_none a t'
    | bl b => cases rx; exact SeqAt.EqAt.int_bool a t' b
    | int b => obtain ⟨t, rfl⟩ := rx; exact SeqAt.EqAt.int_int a t' b t
    | str b => obtain ⟨t, rfl⟩ := rx; exact SeqAt.EqAt.int_str a t' b t
    | _ => exact absurd (show false = true from fx) Bool.false_ne_true
  | str a =>
    obtain ⟨t', rfl⟩ := ry
    cases x with
    | non => cases rx; exact SeqAt.EqAt.str_none a t'
    | bl b => cases rx; exact SeqAt.EqAt.str_bool a t' b
    | int b => obtain ⟨t, rfl⟩ := rx; exact SeqAt.EqAt.str_int a t' b t
    | str b => obtain ⟨t, rfl⟩ := rx; exact SeqAt.EqAt.str_str a t' b t
    | _ => exact absurd (show false = true from fx) Bool.false_ne_true
  | _ => exact absurd (show false = true from fy) Bool.false_ne_true
/-- the items' answers, read off the values (a value's own answer does not lean on its token) -/
def eqU (x : V) (u : Value) : Bool := match u with
  | .none => eqV .non x
  | .bool b => eqV (.bl b) x
  | .int i _ => eqV (.int i) x
  | .str z _ => eqV (.str z) x
  | _ => false
theorem eqU_of {x y : V} {u : Value} (r : RelV y u) (f : flatV y = true) : eqU x u = eqV y x := by
  cases y with
  | non => cases r; rfl
  | bl b => cases r; rfl
  | int i => obtain ⟨t, rfl⟩ := r; rfl
  | str z => obtain ⟨t, rfl⟩ := r; rfl
  | _ => exact absurd (show false = true from f) Bool.false_ne_true
theorem any_eqU {x : V} : ∀ {xs : List V} {us : List Value}, Vals xs us → xs.all flatV = true → us.any (eqU x) = xs.any fun y => eqV y x
  | _, _, .nil, _ => rfl
  | y :: xs, u :: us, .cons r t, f => by
    rw [List.all_cons, Bool.and_eq_true] at f
    rw [List.any_cons, List.any_cons, eqU_of r f.1, any_eqU t f.2]
theorem mem_eqAt {A : Around} {s : Shared} {x : V} {v : Value} (rx : RelV x v) (fx : flatV x = true) : ∀ {xs : List V} {us : List Value}, Vals xs us → xs.all flatV = true → ∀ u ∈ us, SeqAt.EqAt A s u v (eqU x u)
  | _, _, .nil, _ => fun u hu => by cases hu
  | y :: xs, u :: us, .cons r t, f => fun u' hu => by
    rw [List.all_cons, Bool.and_eq_true] at f
    rcases List.mem_cons.mp hu with rfl | hu
    · rw [eqU_of r f.1]; exact eqAt_V r rx f.1 fx
    · exact mem_eqAt rx fx t f.2 u' hu
def inV (x : V) (xs : List V) : Bool := xs.any fun y => eqV y x
/-- x in a list or tuple of flat items -/
def rIn (K : PySem.W.Frag) (neg : Bool) : R2 := fun x y H Q => ∃ p xs, y = .ref p ∧ (SqL K H p xs ∨ SqT K H p xs) ∧ flatV x = true ∧ xs.all flatV = true ∧ Q (.bl (if neg then !inV x xs else inV x xs)) H
theorem op_in_seq : OpR X (compareOp .In) (rIn X.K false) := by
  intro pins s σ H x y v u Q I rx ry h
  obtain ⟨p, xs, rfl, hq, fx, fs, q⟩ := h
  cases ry
  rcases hq with hq | hq
  · obtain ⟨its, r, pl, hz⟩ := I.list hq
    refine SeqAt.in_listAt (eqU x) pl.isList (fun w hw => mem_eqAt rx fx r fs w (by simpa using hw)) ⟨.bl _, H, I, rfl, ?_⟩
    rw [show its.toArray.any (eqU x) = its.any (eqU x) by simp, any_eqU r fs]
    exact q
  · obtain ⟨its, r, pl, hz⟩ := I.tuple hq
    refine SeqAt.in_tupleAt (eqU x) pl (fun w hw => mem_eqAt rx fx r fs w (by simpa using hw)) ⟨.bl _, H, I, rfl, ?_⟩
    rw [show its.toArray.any (eqU x) = its.any (eqU x) by simp, any_eqU r fs]
    exact q
theorem op_notIn_seq : OpR X (compareOp .NotIn) (rIn X.K true) := by
  intro pins s σ H x y v u Q I rx ry h
  obtain ⟨p, xs, rfl, hq, fx, fs, q⟩ := h
  cases ry
  rcases hq with hq | hq
  · obtain ⟨its, r, pl, hz⟩ := I.list hq
    refine SeqAt.notIn_listAt (eqU x) pl.isList (fun w hw => mem_eqAt rx fx r fs w (by simpa using hw)) ⟨.bl _, H, I, rfl, ?_⟩
    rw [show its.toArray.any (eqU x) = its.any (eqU x) by simp, any_eqU r fs]
    exact q
  · obtain ⟨its, r, pl, hz⟩ := I.tuple hq
    refine SeqAt.notIn_tupleAt (eqU x) pl (fun w hw => mem_eqAt rx fx r fs w (by simpa using hw)) ⟨.bl _, H, I, rfl, ?_⟩
    rw [show its.toArray.any (eqU x) = its.any (eqU x) by simp, any_eqU r fs]
    exact q
theorem op_notIn_str : OpR X (compareOp .NotIn) (fun x y H Q => ∃ i j, x = .str i ∧ y = .str j ∧ Q (.bl (!(!(Builtin.Str.occurrences j i 0 j.length 1).isEmpty))) H) := by
  intro pins s σ H x y v u Q I rx ry h
  obtain ⟨i, j, rfl, rfl, q⟩ := h
  obtain ⟨t, rfl⟩ := rx
  obtain ⟨t', rfl⟩ := ry
  exact notIn_str ⟨.bl _, H, I, rfl, q⟩

/-! ### len, list(x), tuple(x) of any list or tuple that is read -/
theorem call_len_seq : CallR X (.builtin "len") (fun xs H Q => ∃ p ys, xs = [.ref p] ∧ (SqL X.K H p ys ∨ SqT X.K H p ys) ∧ Q (.int ys.length) H) := by
  intro pins s σ H xs us Q I r h
  obtain ⟨p, ys, rfl, hq, q⟩ := h
  obtain ⟨u, rfl, rx⟩ := vals1 r
  cases rx
  have hn := line63
  rcases hq with hq | hq
  · obtain ⟨its, r', pl, hz⟩ := I.list hq
    have hlen := r'.length
    exact Calls.call_len_list pl.isList (by simp only [List.size_toArray] <;> omega) ⟨.int ys.length, H, I.tok _, ⟨s.toks + 1, by rw [List.size_toArray, hlen]⟩, q⟩
  · obtain ⟨its, r', pl, hz⟩ := I.tuple hq
    have hlen := r'.length
    exact len_tuple pl (by simp only [List.size_toArray] <;> omega) ⟨.int ys.length, H, I.tok _, ⟨s.toks + 1, by rw [List.size_toArray, hlen]⟩, q⟩
theorem call_len_str : CallR X (.builtin "len") (fun xs H Q => ∃ z, xs = [.str z] ∧ z.length ≤ sizeLine ∧ Q (.int z.length) H) := by
  intro pins s σ H xs us Q I r h
  obtain ⟨z, rfl, hz, q⟩ := h
  obtain ⟨u, rfl, t, rfl⟩ := vals1 r
  have hn := line63
  exact len_str (by omega) ⟨.int z.length, H, I.tok _, ⟨_, rfl⟩, q⟩
theorem CallR.or {f : Value} {r r' : List V → Hp → VK → Prop} (h : CallR X f r) (h' : CallR X f r') : CallR X f (fun xs H Q => r xs H Q ∨ r' xs H Q) := by
  intro pins s σ H xs us Q I rs q
  rcases q with q | q
  · exact h pins s σ H xs us Q I rs q
  · exact h' pins s σ H xs us Q I rs q
theorem call_list_of : CallR X (.type "list") (fun xs H Q => ∃ p ys, xs = [.ref p] ∧ (SqL X.K H p ys ∨ SqT X.K H p ys) ∧ ∀ l, H l = none → Q (.ref l) (upd H l (.lst ys))) := by
  intro pins s σ H xs us Q I r h
  obtain ⟨p, ys, rfl, hq, q⟩ := h
  obtain ⟨u, rfl, rx⟩ := vals1 r
  cases rx
  have fin : ∀ (its : List Value), Vals ys its → ys.length ≤ sizeLine → ∀ (h' : Heap) (c' : Nat), (∀ b o', s.heap.get? b = some o' → h'.get? b = some o') →
      h'.get? s.heap.objs.size = some { cls := .type "list", dict := none, data := .seq its.toArray c', slots := #[] } → EP X pins σ Q (.ref s.heap.objs.size) { s with heap := h' } := fun its r' hz h' c' kp e =>
    ⟨.ref s.heap.objs.size, _, I.laid (t' := s.toks) kp (Nat.le_refl _) (show ObjOk X.prog X.w _ h' _ (.lst ys) from ⟨hz, its, c', r', e⟩), rfl, q _ (I.hok.fresh (Nat.le_refl _))⟩
  rcases hq with hq | hq
  · obtain ⟨its, r', pl, hz⟩ := I.list hq
    have hlen := r'.length
    obtain ⟨o, ho, hc, n, hd⟩ := pl.isList
    exact call_list_seq p (.inl rfl) ho hc hd (fun h' c' kp e => fin its r' hz h' c' kp e) (by simp only [List.size_toArray] <;> omega)
  · obtain ⟨its, r', pl, hz⟩ := I.tuple hq
    have hlen := r'.length
    obtain ⟨o, ho, hc, n, hd⟩ := pl
    exact call_list_seq p (.inr rfl) ho hc hd (fun h' c' kp e => fin its r' hz h' c' kp e) (by simp only [List.size_toArray] <;> omega)
theorem call_tuple_of : CallR X (.type "tuple") (fun xs H Q => ∃ p ys, xs = [.ref p] ∧ ((SqL X.K H p ys ∧ ∀ l, H l = none → Q (.ref l) (upd H l (.tup ys))) ∨ (SqT X.K H p ys ∧ Q (.ref p) H))) := by
  intro pins s σ H xs us Q I r h
  obtain ⟨p, ys, rfl, h⟩ := h
  obtain ⟨u, rfl, rx⟩ := vals1 r
  cases rx
  rcases h with ⟨hq, q⟩ | ⟨hq, q⟩
  · obtain ⟨its, r', pl, hz⟩ := I.list hq
    have hlen := r'.length
    refine call_tuple_list pl.isList (fun h' kp => ?_) (by simp only [List.size_toArray] <;> omega)
    have I1 : Inv X pins σ H { s with heap := h' } := I.kept (t' := s.toks) kp
    have I2 : Inv X pins σ (upd H h'.objs.size (.tup ys)) { s with heap := h'.push { cls := .type "tuple", data := .seq its.toArray } } :=
      I1.laid (t' := s.toks) (fun b o e => Heap.get?_push_of_some _ e) (Nat.le_refl _) (show ObjOk X.prog X.w _ _ _ (.tup ys) from ⟨hz, its, r', IsTup.new _ _⟩)
    exact ⟨.ref h'.objs.size, _, I2, rfl, q _ (I1.hok.fresh (Nat.le_refl _))⟩
  · obtain ⟨its, r', pl, hz⟩ := I.tuple hq
    exact call_tuple_same pl ⟨.ref p, H, I, rfl, q⟩

/-! ### the call of a builtin's method: o.m(..) -/
/-- the value is of that builtin type -/
def tyV (K : PySem.W.Frag) (T : String) (x : V) (H : Hp) : Prop := match x with
  | .str _ => T = "str"
  | .int _ => T = "int"
  | .ref p => (T = "list" ∧ ∃ xs, SqL K H p xs) ∨ (T = "tuple" ∧ ∃ o, K.lookup p = some o ∧ o.cls = .type "tuple" ∧ o.dict = none) ∨
      (T = "dict" ∧ ((∃ kvs, H p = some (.dK kvs)) ∨ ∃ kvs, H p = some (.dT kvs))) ∨ (T = "set" ∧ ∃ S n, H p = some (.set S n))
  | _ => False
theorem tyV_is {pins : List (Addr × Obj)} {σ : St} {H : Hp} {s : Shared} {T : String} {x : V} {v : Value} (I : Inv X pins σ H s) (r : RelV x v) (ty : tyV X.K T x H) :
    s.TypeIs v T ∧ ∀ a, v = .ref a → ∃ ob, s.heap.get? a = some ob ∧ ob.dict = none := by
  cases x with
  | str z =>
    obtain ⟨t, rfl⟩ := r
    cases (show T = "str" from ty)
    exact ⟨typeIs_str s z t, fun _ e => nomatch e⟩
  | int i =>
    obtain ⟨t, rfl⟩ := r
    cases (show T = "int" from ty)
    exact ⟨typeIs_int s i t, fun _ e => nomatch e⟩
  | ref p =>
    cases r
    rcases ty with ⟨rfl, xs, hq⟩ | ⟨rfl, o, hk, hc, hd⟩ | ⟨rfl, hk⟩ | ⟨rfl, S, n, hk⟩
    · obtain ⟨its, _, pl, _⟩ := I.list hq
      refine ⟨pl.isList.typeIs, fun a e => ?_⟩
      cases e
      obtain ⟨o, n, e, c, hd, _⟩ := pl
      exact ⟨o, e, hd⟩
    · refine ⟨⟨o, I.kIn p o hk, hc⟩, fun a e => ?_⟩
      cases e
      exact ⟨o, I.kIn _ o hk, hd⟩
    · have z : ∃ o, s.heap.get? p = some o ∧ o.ExactDict := by
        rcases hk with ⟨kvs, hk⟩ | ⟨kvs, hk⟩
        · obtain ⟨_, _, _, _, o, _, _, e, ex, _⟩ := I.hok p _ hk
          exact ⟨o, e, ex⟩
        · obtain ⟨_, _, _, _, o, _, _, e, ex, _⟩ := I.hok p _ hk
          exact ⟨o, e, ex⟩
      obtain ⟨o, e, ex⟩ := z
      refine ⟨⟨o, e, ex.1⟩, fun a e2 => ?_⟩
      cases e2
      exact ⟨o, e, ex.2.1⟩
    · obtain ⟨o, _, _, _, e, ex, _⟩ := I.hok p _ hk
      refine ⟨⟨o, e, ex.1⟩, fun a e2 => ?_⟩
      cases e2
      exact ⟨o, e, ex.2.1⟩
  | _ => exact False.elim ty
def tBM0 (K : PySem.W.Frag) (T : String) (r : V → List V → Hp → VK → Prop) (to : TE) : TE := fun σ H Q => to σ H fun x H1 => tyV K T x H1 ∧ r x [] H1 Q
def tBM (K : PySem.W.Frag) (T : String) (r : V → List V → Hp → VK → Prop) (to : TE) (t : TA) : TE := fun σ H Q => to σ H fun x H1 => tyV K T x H1 ∧ t σ H1 fun xs H2 => r x xs H2 Q
variable {o e : Expr} {es : List Expr} {to : TE} {t : TA} {name : Str} {apos cpos : Pos} {T id : String} {r : V → List V → Hp → VK → Prop}
theorem pe_bm0 (pa : PlainAttrs T) (slot : Slot T name id) (hty : typeOf (.builtin id) = pure (.type "method_descriptor")) (hm : MtR X id r) (ho : PE X o to)
    (hbase : attributeBase o name X.env (eval o X.env) = eval o X.env := by rfl) (hline : (apos.endLine == cpos.line) = true := by rfl) : PE X (.Call (.Attribute o name apos) [] [] cpos) (tBM0 X.K T r to) := by
  intro pins s σ H Q I h
  refine wpAny_Call_method0_late hbase hline (thn (ho pins s σ H _ I h) fun v s1 ⟨x, H1, I1, r1, ty, q1⟩ => ?_)
  obtain ⟨h1, h2⟩ := tyV_is I1 r1 ty
  exact ⟨T, id, pa, slot, hty, h1, h2, Calls.callWith_builtin rfl (PySem.evalArgs_none (hm pins s1 σ H1 x [] v [] Q I1 r1 .nil q1))⟩
theorem pe_bm (pa : PlainAttrs T) (slot : Slot T name id) (hty : typeOf (.builtin id) = pure (.type "method_descriptor")) (hm : MtR X id r) (ho : PE X o to) (ha : PA X (e :: es) t)
    (hbase : attributeBase o name X.env (eval o X.env) = eval o X.env := by rfl)
    (hfew : ((backTo cpos (starEach (e :: es) X.env)).all (fun x => !x.1) && (backToKw cpos (keywordEach [] X.env)).all (fun x => x.1.isSome)
      && decide ((e :: es).length + ([] : List Keyword).length + (if ([] : List Keyword).isEmpty then 0 else 1) < 30)) = true := by rfl)
    (hline : (apos.endLine == cpos.line) = true := by rfl) (hs : starEach (e :: es) X.env = (false, eval e X.env) :: starEach es X.env := by rfl) (hplain : (backTo cpos (starEach es X.env)).any (·.1) = false := by rfl) :
    PE X (.Call (.Attribute o name apos) (e :: es) [] cpos) (tBM X.K T r to t) := by
  intro pins s σ H Q I h
  refine wpAny_Call_method_late hbase hfew hline rfl (thn (ho pins s σ H _ I h) fun v s1 ⟨x, H1, I1, r1, ty, q1⟩ => ?_)
  obtain ⟨h1, h2⟩ := tyV_is I1 r1 ty
  refine ⟨T, id, pa, slot, hty, h1, h2, ?_⟩
  have hA := ha cpos pins s1 σ H1 _ I1 q1
  rw [hs] at hA ⊢
  refine Calls.callWith_builtin (by show (false || (backTo cpos (starEach es X.env)).any (·.1)) = false; rw [hplain] <;> rfl) (Calls.evalArgs_plain ?_)
  exact thn hA fun us s2 ⟨vs, H2, I2, r2, q2⟩ => hm pins s2 σ H2 x vs v us Q I2 r1 r2 q2
/- xs.append(e), list.index on a module's tuple .. are MtR facts of 06m -/
end
end L2

namespace L2
open PySem PySem.Spec PyProof.Rows

def MtM (X : Cx) (id : String) (r : V → List V → Hp → VK → Prop) : Prop :=
  ∀ (pins : List (Addr × Obj)) (s : Shared) (σ : St) (H : Hp) (x : V) (xs : List V) (v : Value) (us : List Value) (Q : VK), Inv X pins σ H s → RelV x v → Vals xs us → r x xs H Q →
    wpAny (model X.prog X.w) X.A (call (.builtin id) (v :: us)) (EP X pins σ Q) X.xe s

/-! ### lists of values -/
theorem Vals.one : ∀ {x : V} {us : List Value}, Vals [x] us → ∃ u, us = [u] ∧ RelV x u
  | _, _, .cons r .nil => ⟨_, rfl, r⟩
theorem Vals.two : ∀ {x y : V} {us : List Value}, Vals [x, y] us → ∃ u v, us = [u, v] ∧ RelV x u ∧ RelV y v
  | _, _, _, .cons r (.cons q .nil) => ⟨_, _, rfl, r, q⟩
theorem Vals.zero : ∀ {us : List Value}, Vals [] us → us = []
  | _, .nil => rfl
theorem Vals.dropLast {xs : List V} {us : List Value} (h : Vals xs us) : Vals xs.dropLast us.dropLast := by
  induction h with
  | nil => exact .nil
  | cons r t ih =>
    cases t with
    | nil => exact .nil
    | cons q t' => exact .cons r ih
theorem Vals.eraseIdx : ∀ {xs : List V} {us : List Value} (i : Nat), Vals xs us → Vals (xs.eraseIdx i) (us.eraseIdx i)
  | _, _, _, .nil => .nil
  | _, _, 0, .cons _ t => t
  | _, _, i + 1, .cons r t => .cons r (Vals.eraseIdx i t)
theorem Vals.reverse {xs : List V} {us : List Value} (h : Vals xs us) : Vals xs.reverse us.reverse := by
  induction h with
  | nil => exact .nil
  | cons r t ih => rw [List.reverse_cons, List.reverse_cons]; exact Vals.append ih (.cons r .nil)
theorem Vals.rep {xs : List V} {us : List Value} (h : Vals xs us) : ∀ k : Nat, Vals (List.replicate k xs).flatten (List.replicate k us).flatten
  | 0 => .nil
  | k + 1 => by
    rw [List.replicate_succ, List.replicate_succ, List.flatten_cons, List.flatten_cons]
    exact Vals.append h (Vals.rep h k)
theorem erase_last {α : Type} (l : List α) : l.eraseIdx (l.length - 1) = l.dropLast := by
  induction l with
  | nil => rfl
  | cons a r ih =>
    cases r with
    | nil => rfl
    | cons b r =>
      have e : (a :: b :: r).length - 1 = ((b :: r).length - 1) + 1 := by
        have h1 : (a :: b :: r).length = r.length + 2 := rfl
        have h2 : (b :: r).length = r.length + 1 := rfl
        omega
      rw [e, List.eraseIdx_cons_succ, ih]
      all_goals rfl
theorem len_erase {α : Type} : ∀ (l : List α) (i : Nat), (l.eraseIdx i).length ≤ l.length
  | [], _ => Nat.le_refl _
  | _ :: _, 0 => Nat.le_succ _
  | _ :: r, i + 1 => Nat.succ_le_succ (len_erase r i)
theorem foldl_rep (its : List Value) : ∀ (k : Nat) (acc : List Value),
    List.foldl (fun x1 x2 => x1 ++ x2) acc.toArray (List.replicate k its.toArray) = (acc ++ (List.replicate k its).flatten).toArray
  | 0, acc => by simp
  | k + 1, acc => by
    have e : acc.toArray ++ its.toArray = (acc ++ its).toArray := by simp
    have e2 : (acc ++ its) ++ (List.replicate k its).flatten = acc ++ (List.replicate (k + 1) its).flatten := by
      rw [List.replicate_succ, List.flatten_cons, List.append_assoc]
    rw [← e2, ← foldl_rep its k (acc ++ its), ← e, List.replicate_succ, List.foldl_cons]

section
variable {X : Cx} {pins : List (Addr × Obj)} {σ : St} {H : Hp} {s : Shared} {l b : Addr} {xs ys zs : List V}

/-! ### the two steps: a tracked list is rewritten, a new list is laid -/
theorem Inv.lset {its its' : List Value} {n : Nat} {f : Array Value → Array Value} {t' : Nat} (I : Inv X pins σ H s) (hH : H l = some (.lst xs))
    (e : s.heap.get? l = some { cls := .type "list", data := .seq its.toArray n }) (hf : f its.toArray = its'.toArray) (hv : Vals ys its') (hz : ys.length ≤ sizeLine) :
    Inv X pins σ (upd H l (.lst ys)) { s with heap := s.heap.update l (Obj.mapSeq f), toks := t' } := by
  have q := PySem.IsL.update e f
  rw [hf] at q
  refine I.write (x := l) (e := l) (by rw [hH]; exact trivial) (.inl rfl) (fun b' u hb hu => (Heap.get?_update_other s.heap (Obj.mapSeq f) (Ne.symm hb)).trans hu) ⟨_, q⟩ ?_
  exact ⟨hz, its', _, hv, q⟩
theorem Inv.lnew {its : List Value} {t' : Nat} (I : Inv X pins σ H s) (hv : Vals ys its) (hz : ys.length ≤ sizeLine) :
    Inv X pins σ (upd H s.heap.objs.size (.lst ys)) { s with heap := s.heap.push { cls := .type "list", data := .seq its.toArray }, toks := t' } :=
  I.laid (fun _ _ q => Heap.get?_push_of_some _ q) (Nat.le_refl _) ⟨hz, its, 0, hv, Heap.get?_push_size _ rfl⟩
theorem Inv.fresh (I : Inv X pins σ H s) : H s.heap.objs.size = none := I.hok.fresh (Nat.le_refl _)
theorem Inv.lstM (I : Inv X pins σ H s) (hH : H l = some (.lst xs)) : xs.length ≤ sizeLine ∧ ∃ (its : List Value) (n : Nat), Vals xs its ∧ xs.length = its.length ∧ s.heap.get? l = some { cls := .type "list", data := .seq its.toArray n } := by
  obtain ⟨z, its, n, r, e⟩ := I.hok l _ hH
  exact ⟨z, its, n, r, r.length, e⟩

theorem notLongL {n : Nat} (h : n ≤ sizeLine) : Builtin.List.listTooLong n = false := by
  unfold Builtin.List.listTooLong
  exact decide_eq_false (by omega)
end

section
variable {X : Cx}

/-! ### methods -/
def rAppend : V → List V → Hp → VK → Prop := fun x vs H Q => ∃ l xs y, x = .ref l ∧ vs = [y] ∧ H l = some (.lst xs) ∧ xs.length < sizeLine ∧ Q .non (upd H l (.lst (xs ++ [y])))
theorem mt_append : MtM X "list.append" rAppend := by
  intro pins s σ H x vs v us Q I rx rv h
  obtain ⟨l, xs, y, rfl, rfl, hH, hz, q⟩ := h
  cases rx
  obtain ⟨u, rfl, ru⟩ := rv.one
  obtain ⟨z, its, n, r, hl, e⟩ := I.lstM hH
  refine call_meets F.slot_list_append ⟨_, e, rfl⟩ F.entry_list_append (F.args_list_append_2 _ _) (PySem.list_append l its.toArray n u (by rw [List.size_toArray]; omega)) ⟨e, ?_⟩
  refine ⟨.non, _, I.lset (its' := its ++ [u]) hH e (by simp) (r.append (.cons ru .nil)) ?_, rfl, q⟩
  rw [List.length_append, List.length_singleton]
  omega

def rExtend : V → List V → Hp → VK → Prop := fun x vs H Q => ∃ l b xs zs, x = .ref l ∧ vs = [.ref b] ∧ H l = some (.lst xs) ∧ H b = some (.lst zs) ∧ xs.length + zs.length ≤ sizeLine ∧ Q .non (upd H l (.lst (xs ++ zs)))
theorem mt_extend : MtM X "list.extend" rExtend := by
  intro pins s σ H x vs v us Q I rx rv h
  obtain ⟨l, b, xs, zs, rfl, rfl, hH, hB, hz, q⟩ := h
  cases rx
  obtain ⟨u, rfl, ru⟩ := rv.one
  cases ru
  obtain ⟨z, its, n, r, hl, e⟩ := I.lstM hH
  obtain ⟨z2, its2, n2, r2, hl2, e2⟩ := I.lstM hB
  have hsz : its.toArray.size + its2.toArray.size ≤ sizeLine := by rw [List.size_toArray, List.size_toArray]; omega
  have hlong : ¬ (!its.toArray.isEmpty && Builtin.List.listTooLong (its.toArray.size + its2.toArray.size)) = true := by
    rw [notLongL hsz, Bool.and_false]
    exact Bool.false_ne_true
  refine call_meets F.slot_list_extend ⟨_, e, rfl⟩ F.entry_list_extend (F.args_list_extend_2 _ _)
    (AutoSeq1.list_extend_list_list_0 l its.toArray n b its2.toArray n2 hlong (by rw [List.size_toArray]; omega) (by omega)) ⟨e, e2, ?_⟩
  refine ⟨.non, _, I.lset (its' := its ++ its2) hH e (by simp) (r.append r2) ?_, rfl, q⟩
  rw [List.length_append]
  omega

def rPop : V → List V → Hp → VK → Prop := fun x vs H Q => ∃ l xs y, x = .ref l ∧ vs = [] ∧ H l = some (.lst xs) ∧ xs[xs.length - 1]? = some y ∧ Q y (upd H l (.lst xs.dropLast))
theorem mt_pop : MtM X "list.pop" rPop := by
  intro pins s σ H x vs v us Q I rx rv h
  obtain ⟨l, xs, y, rfl, rfl, hH, hy, q⟩ := h
  cases rx
  have hus := rv.zero
  subst hus
  obtain ⟨z, its, n, r, hl, e⟩ := I.lstM hH
  obtain ⟨u, hu, ru⟩ := r.get hy
  have hy' : its.toArray[its.toArray.size - 1]? = some u := by
    show its.toArray[its.length - 1]? = some u
    rw [← Array.getElem?_toList, ← hl]
    exact hu
  refine call_meets F.slot_list_pop ⟨_, e, rfl⟩ F.entry_list_pop (F.args_list_pop_1 _) (MeetsSeq.list_pop_last l its.toArray n u hy' (by rw [List.size_toArray]; omega)) ⟨e, ?_⟩
  refine ⟨y, _, I.lset (its' := its.dropLast) hH e ?_ r.dropLast ?_, ru, q⟩
  · show its.toArray.eraseIdxIfInBounds (its.toArray.size - 1) = its.dropLast.toArray
    rw [List.size_toArray, List.eraseIdxIfInBounds_toArray, erase_last]
  · rw [List.length_dropLast]
    omega

def rPopAt : V → List V → Hp → VK → Prop := fun x vs H Q => ∃ l xs i k y, x = .ref l ∧ vs = [.int i] ∧ H l = some (.lst xs) ∧ -(2 ^ 63) ≤ i ∧ i < 2 ^ 63 ∧ seqIndex? i xs.length = some k ∧ xs[k]? = some y ∧ Q y (upd H l (.lst (xs.eraseIdx k)))
theorem mt_popAt : MtM X "list.pop" rPopAt := by
  intro pins s σ H x vs v us Q I rx rv h
  obtain ⟨l, xs, i, k, y, rfl, rfl, hH, h1, h2, hk, hy, q⟩ := h
  cases rx
  obtain ⟨u, rfl, ru⟩ := rv.one
  obtain ⟨t, rfl⟩ := ru
  obtain ⟨z, its, n, r, hl, e⟩ := I.lstM hH
  obtain ⟨w, hw, rw'⟩ := r.get hy
  refine call_meets F.slot_list_pop ⟨_, e, rfl⟩ F.entry_list_pop (F.args_list_pop_2 _ _)
    (MeetsSeq.list_pop_at l its.toArray n i t k w (fitsIndex_both h1 h2) (by rw [List.size_toArray, ← hl]; exact hk) (by rw [← Array.getElem?_toList]; exact hw) (by rw [List.size_toArray]; omega)) ⟨e, ?_⟩
  refine ⟨y, _, I.lset (its' := its.eraseIdx k) hH e ?_ (r.eraseIdx k) ?_, rw', q⟩
  · show its.toArray.eraseIdxIfInBounds k = (its.eraseIdx k).toArray
    rw [List.eraseIdxIfInBounds_toArray]
  · have := len_erase xs k
    omega

def rReverse : V → List V → Hp → VK → Prop := fun x vs H Q => ∃ l xs, x = .ref l ∧ vs = [] ∧ H l = some (.lst xs) ∧ Q .non (upd H l (.lst xs.reverse))
theorem mt_reverse : MtM X "list.reverse" rReverse := by
  intro pins s σ H x vs v us Q I rx rv h
  obtain ⟨l, xs, rfl, rfl, hH, q⟩ := h
  cases rx
  have hus := rv.zero
  subst hus
  obtain ⟨z, its, n, r, hl, e⟩ := I.lstM hH
  refine call_meets F.slot_list_reverse ⟨_, e, rfl⟩ F.entry_list_reverse (F.args_list_reverse_1 _) (AutoSeq1.list_reverse_list_0 l its.toArray n (by rw [List.size_toArray]; omega)) ⟨e, ?_⟩
  refine ⟨.non, _, I.lset (its' := its.reverse) hH e (by simp) r.reverse ?_, rfl, q⟩
  rw [List.length_reverse]
  omega

def rClear : V → List V → Hp → VK → Prop := fun x vs H Q => ∃ l xs, x = .ref l ∧ vs = [] ∧ H l = some (.lst xs) ∧ Q .non (upd H l (.lst []))
theorem mt_clear : MtM X "list.clear" rClear := by
  intro pins s σ H x vs v us Q I rx rv h
  obtain ⟨l, xs, rfl, rfl, hH, q⟩ := h
  cases rx
  have hus := rv.zero
  subst hus
  obtain ⟨z, its, n, r, hl, e⟩ := I.lstM hH
  refine call_meets F.slot_list_clear ⟨_, e, rfl⟩ F.entry_list_clear (F.args_list_clear_1 _) (AutoSeq1.list_clear_list_0 l its.toArray n (by rw [List.size_toArray]; omega)) ⟨e, ?_⟩
  exact ⟨.non, _, I.lset (its' := []) (ys := []) hH e rfl .nil (Nat.zero_le _), rfl, q⟩

/-! ### list + list, list += list, list * int -/
def rCat : R2 := fun x y H Q => ∃ l b xs zs, x = .ref l ∧ y = .ref b ∧ H l = some (.lst xs) ∧ H b = some (.lst zs) ∧ xs.length + zs.length ≤ sizeLine ∧ ∀ p, H p = none → Q (.ref p) (upd H p (.lst (xs ++ zs)))
theorem op_cat : OpR X (binaryOp .Add) rCat := by
  intro pins s σ H x y v u Q I rx ry h
  obtain ⟨l, b, xs, zs, rfl, rfl, hH, hB, hz, q⟩ := h
  cases rx
  cases ry
  obtain ⟨z, its, n, r, hl, e⟩ := I.lstM hH
  obtain ⟨z2, its2, n2, r2, hl2, e2⟩ := I.lstM hB
  refine PySem.P.add_list e e2 ?_ (by rw [List.size_toArray, List.size_toArray]; omega)
  have ea : its.toArray ++ its2.toArray = (its ++ its2).toArray := by simp
  rw [ea]
  exact ⟨.ref _, _, I.lnew (t' := s.toks) (r.append r2) (by rw [List.length_append]; omega), rfl, q _ I.fresh⟩
/-- a list times an int (a negative one is nothing) -/
def rRep : R2 := fun x y H Q => ∃ l k xs, x = .ref l ∧ y = .int k ∧ H l = some (.lst xs) ∧ -(2 ^ 63) ≤ k ∧ k < 2 ^ 63 ∧ xs.length * k.toNat ≤ sizeLine ∧
  ∀ p, H p = none → Q (.ref p) (upd H p (.lst (List.replicate k.toNat xs).flatten))
theorem len_rep {α : Type} (xs : List α) (k : Nat) : (List.replicate k xs).flatten.length = k * xs.length := by
  induction k with
  | zero => simp
  | succ k ih => rw [List.replicate_succ, List.flatten_cons, List.length_append, ih, Nat.succ_mul, Nat.add_comm]
theorem op_rep : OpR X (binaryOp .Mult) rRep := by
  intro pins s σ H x y v u Q I rx ry h
  obtain ⟨l, k, xs, rfl, rfl, hH, h1, h2, hz, q⟩ := h
  cases rx
  obtain ⟨t, rfl⟩ := ry
  obtain ⟨z, its, n, r, hl, e⟩ := I.lstM hH
  have hlen : its.toArray.size * k.toNat ≤ sizeLine := by rw [List.size_toArray, ← hl]; exact hz
  have hcap : ¬ its.toArray.size * k.toNat > (2 ^ 63 - 1) / 8 := by
    have : (sizeLine : Nat) ≤ (2 ^ 63 - 1) / 8 := by decide
    omega
  have hfit : ¬ (!Builtin.List.listFitsIndex k) = true := by
    rw [fitsIndex_both h1 h2]
    exact Bool.false_ne_true
  have hlong : ¬ Builtin.List.listTooLong (its.toArray.size * k.toNat) = true := by
    rw [notLongL hlen]
    exact Bool.false_ne_true
  have hnew : List.foldl (fun x1 x2 => x1 ++ x2) #[] (List.replicate (if its.toArray.isEmpty = true then 0 else k.toNat) its.toArray) = (List.replicate k.toNat its).flatten.toArray := by
    have f0 : ∀ m : Nat, List.foldl (fun x1 x2 => x1 ++ x2) #[] (List.replicate m its.toArray) = (List.replicate m its).flatten.toArray := fun m => by
      have := foldl_rep its m []
      rw [List.nil_append] at this
      exact this
    rw [f0]
    cases its with
    | nil => simp
    | cons a r' => rw [if_neg (by simp)]
  refine wpAny_binaryOp_repeat_ref (T := "list") (U := "int") (by decide) ⟨_, e, rfl⟩ (fun s' => typeIs_int s' k t) noFill_list_mul F.fills_int_mul F.slot_int_rmul repeat_list F.slot_int_index.lookup
    (call_meets F.slot_int_rmul (typeIs_int s k t) F.entry_int_rmul (F.args_int_rmul_2 _ _) (int___rmul___int_list k t l its.toArray n)
      ⟨e, rfl, ⟨_, e, rfl⟩, call_meets F.slot_list_mul ⟨_, e, rfl⟩ F.entry_list_mul (F.args_list_mul_2 _ _) (AutoListH.list___mul___list_int_3 l its.toArray n k t hfit hcap hlong) ⟨e, ?_⟩⟩)
  rw [hnew]
  exact ⟨.ref _, _, I.lnew (t' := s.toks) (r.rep k.toNat) (by rw [len_rep, Nat.mul_comm]; exact hz), rfl, q _ I.fresh⟩

/-! ### del xs[i] -/
theorem del_list {pins : List (Addr × Obj)} {s : Shared} {σ : St} {H : Hp} {l : Addr} {xs : List V} {i : Int} {t : Tok} {k : Nat} {Q : Unit → Shared → Prop} (I : Inv X pins σ H s) (hH : H l = some (.lst xs))
    (h1 : -(2 ^ 63) ≤ i) (h2 : i < 2 ^ 63) (hk : seqIndex? i xs.length = some k) (h : ∀ s', Inv X pins σ (upd H l (.lst (xs.eraseIdx k))) s' → Q () s') :
    wpAny (model X.prog X.w) X.A (delItem (.ref l) (.int i t)) Q X.xe s := by
  obtain ⟨z, its, n, r, hl, e⟩ := I.lstM hH
  refine PySem.P.delItem_list (k := k) e (fitsIndex_both h1 h2) (by rw [List.size_toArray, ← hl]; exact hk) (h _ ?_) (by rw [List.size_toArray]; omega)
  refine I.lset (its' := its.eraseIdx k) (t' := s.toks) hH e ?_ (r.eraseIdx k) ?_
  · show its.toArray.eraseIdxIfInBounds k = (its.eraseIdx k).toArray
    rw [List.eraseIdxIfInBounds_toArray]
  · have := len_erase xs k
    omega
end

/-! ### xs[a:b] = ys -/
section
variable {prog : Program} {w : World} {A : Around} {E : Value → Shared → Prop} {s : Shared}
theorem splice_eq (its its2 : List Value) (a c : Nat) : its.toArray.extract 0 a ++ its2.toArray ++ its.toArray.extract c its.toArray.size = (its.take a ++ its2 ++ its.drop c).toArray := by
  apply Array.toList_inj.mp
  first
    | (simp
       exact List.take_of_length_le (by simp))
    | simp [List.take_of_length_le]
    | simp
theorem bounds_run {a c n : Nat} (hac : a ≤ c) (hc : c ≤ n) : sliceBounds (some (a : Int)) (some (c : Int)) none n = ((a : Int), (c : Int), 1) := by
  simp only [sliceBounds, Option.getD_none]
  have h1 : ¬ ((a : Int) < 0) := by omega
  have h2 : ¬ ((c : Int) < 0) := by omega
  simp only [h1, h2, if_false, show (1 : Int) > 0 by decide, if_true]
  congr 1
  · omega
  · congr 1; omega
set_option maxRecDepth 100000 in
/-- list.__setitem__ with a slice of step one and another list -/
theorem setItem_slice {l b sl : Addr} {items new : Array Value} {n n2 : Nat} {vl vu : Value} {a c : Nat} {Q : Unit → Shared → Prop}
    (e : s.heap.get? l = some { cls := .type "list", data := .seq items n }) (e2 : s.heap.get? b = some { cls := .type "list", data := .seq new n2 }) (hne : l ≠ b)
    (hs : s.heap.IsSliceOf sl vl vu .none) (pl : IsPart vl (some (a : Int))) (pu : IsPart vu (some (c : Int))) (hac : a ≤ c) (hc : c ≤ items.size)
    (hsz : items.size + new.size ≤ sizeLine) (h : Q () { s with heap := s.heap.update l (Obj.mapSeq fun xs => xs.extract 0 a ++ new ++ xs.extract c xs.size) }) :
    wpAny (model prog w) A (setItem (.ref l) (.ref sl) (.ref b)) Q E s := by
  have hl : s.heap.IsList l items := PySem.IsL.isList e
  have hb : s.heap.IsList b new := PySem.IsL.isList e2
  obtain ⟨os, hos, hcs, hds⟩ := id hs
  have hTs : s.TypeIs (.ref sl) "slice" := ⟨os, hos, hcs⟩
  have hstep : ¬ ((rawPart none == rawInt 0) = true) := Bool.false_ne_true
  have hsame : Builtin.List.listSameRef (.ref l) (.ref b) = false := by
    unfold Builtin.List.listSameRef
    exact beq_eq_false_iff_ne.mpr hne
  have hmax : (max (a : Int) (c : Int)).toNat = c := by omega
  have hz' : ((fun xs : Array Value => xs.extract 0 a ++ new ++ xs.extract c xs.size) items).size ≤ sizeLine + 1 := by
    simp only [Array.size_append, Array.size_extract]
    omega
  unfold setItem
  try with_reducible refine wpAny_holding ?_
  first | refine wpAny_bind (wpAny_pure ?_) | skip
  refine wpAny_bind (wpAny_sequenceKey hl.typeIs (by decide) ?_)
  refine wpAny_bind (wpAny_callSpecial?_slot (name := Str.ofString "__setitem__") hl.typeIs slot_list_setitem
    (wpAny_call_entry slot_list_setitem hl.typeIs entry_list_setitem ?_ (args_list_setitem _ _ _)))
  show wpAny _ _ (Builtin.List.listSubscript? (.ref sl) >>= _) _ _ s
  refine wpAny_bind ?_
  unfold Builtin.List.listSubscript?
  refine wpAny_bind (wpAny_specialOf hTs slice_no_index ?_)
  simp only [Option.isNone_none, if_true]
  refine wpAny_pure ?_
  show wpAny _ _ (typeOf (.ref sl) >>= _) _ _ s
  refine wpAny_bind (wpAny_typeOf hTs ?_)
  first
    | rw [if_neg (by decide)]
    | refine PySem.W.KFB.if_not (by decide) ?_
  rw [listSliceParts_eq]
  refine wpAny_bind (wpAny_bind (wpAny_field hos hds (x := .none) rfl (wpAny_bind (wpAny_listPart .none ?_))))
  rw [if_neg hstep]
  refine wpAny_bind (wpAny_field hos hds (x := vl) rfl (wpAny_bind (wpAny_listPart pl ?_)))
  refine wpAny_bind (wpAny_field hos hds (x := vu) rfl (wpAny_bind (wpAny_listPart pu (wpAny_pure ?_))))
  first
    | simp only [hsame, Bool.false_eq_true, if_false]
    | refine PySem.W.KFB.if_not hsame ?_
    | (dsimp only
       rw [if_neg (by rw [hsame]; exact Bool.false_ne_true)])
  refine wpAny_bind (m := Builtin.List.listAllItems (.ref b) "must assign iterable to extended slice") ?_
  unfold Builtin.List.listAllItems
  refine wpAny_bind (wpAny_typeOf hb.typeIs ?_)
  first
    | refine PySem.W.KFB.if_so (by decide) ?_
    | rw [if_pos (by decide)]
    | simp only [beq_self_eq_true, Bool.true_or, if_true]
  unfold Builtin.List.listItems
  refine wpAny_bind (wpAny_seqItems e2 rfl (wpAny_pure ?_))
  refine wpAny_bind (wpAny_bind (wpAny_seqItems e rfl (wpAny_pure ?_)))
  refine wpAny_bind (wpAny_of_eq ((sliceIndices_raw (some (a : Int)) (some (c : Int)) none items.size (by simp)).trans (congrArg (pure : Int × Int × Int → Sem (Int × Int × Int)) (bounds_run hac hc))) ?_)
  show wpAny _ _ (if ((1 : Int) == 1) = true then _ else _) _ _ s
  rw [if_pos (by decide)]
  refine wpAny_bind (wpAny_rule ?_)
  first
    | simp only [notLongL hsz, Bool.false_eq_true, if_false]
    | refine PySem.W.KFB.if_not (notLongL hsz) ?_
  first | refine wpAny_bind (wpAny_pure ?_) | skip
  show wpAny _ _ (updateSeq l (fun xs => xs.extract 0 ((a : Int)).toNat ++ new ++ xs.extract (max (a : Int) (c : Int)).toNat xs.size) >>= _) _ _ s
  rw [hmax, Int.toNat_natCast]
  refine wpAny_bind (wpAny_updateSeq (hz := Nat.le_trans (Nat.le_add_right _ _) hsz) (_hz' := hz') e rfl ?_)
  refine wpAny_bind (wpAny_letGo ?_)
  first
    | exact wpAny_bind (wpAny_pure (wpAny_pure ⟨.none, rfl, wpAny_pure h⟩))
    | exact wpAny_pure ⟨.none, rfl, wpAny_pure h⟩
end

section
variable {X : Cx}
/-- xs[a:c] = ys of another list, at the value level: sl is the slice object that was just made -/
theorem set_slice {pins : List (Addr × Obj)} {s : Shared} {σ : St} {H : Hp} {l b sl : Addr} {xs ys : List V} {a c : Int} {vl vu : Value} {Q : Unit → Shared → Prop} (I : Inv X pins σ H s)
    (hH : H l = some (.lst xs)) (hB : H b = some (.lst ys)) (hne : l ≠ b) (hs : s.heap.IsSliceOf sl vl vu .none) (ra : RelV (.int a) vl) (rc : RelV (.int c) vu) (h0 : 0 ≤ a) (hac : a ≤ c) (hc : c ≤ xs.length)
    (hz : xs.length + ys.length ≤ sizeLine) (h : ∀ s', Inv X pins σ (upd H l (.lst (xs.take a.toNat ++ ys ++ xs.drop c.toNat))) s' → Q () s') :
    wpAny (model X.prog X.w) X.A (setItem (.ref l) (.ref sl) (.ref b)) Q X.xe s := by
  obtain ⟨ta, rfl⟩ := ra
  obtain ⟨tc, rfl⟩ := rc
  obtain ⟨z, its, n, r, hl, e⟩ := I.lstM hH
  obtain ⟨z2, its2, n2, r2, hl2, e2⟩ := I.lstM hB
  obtain ⟨a', rfl⟩ := Int.eq_ofNat_of_zero_le h0
  obtain ⟨c', rfl⟩ := Int.eq_ofNat_of_zero_le (Int.le_trans h0 hac)
  simp only [Int.toNat_natCast] at h
  refine setItem_slice (a := a') (c := c') e e2 hne hs (.int _ _) (.int _ _) (by omega) (by rw [List.size_toArray]; omega) (by rw [List.size_toArray, List.size_toArray]; omega) (h _ ?_)
  refine I.lset (its' := its.take a' ++ its2 ++ its.drop c') (t' := s.toks) hH e ?_ (Vals.append (Vals.append (r.take _) r2) (r.drop _)) ?_
  · exact splice_eq its its2 a' c'
  · rw [List.length_append, List.length_append, List.length_take, List.length_drop]
    omega
end
end L2

namespace Att
open PySem PySem.W PySem.Calls PyProof.Rows

/-! ### the script -/
theorem ints_of_wellAll {P : Params} {h : Heap} : ∀ (ns : List Int) (vs : List Value), WellAll P h vs (ns.map WData.int) → IntsAre vs ns := by
  intro ns
  induction ns with
  | nil =>
    intro vs w
    rw [List.map_nil] at w
    cases w
    exact .nil
  | cons n ns ih =>
    intro vs w
    rw [List.map_cons] at w
    cases w with
    | cons a b =>
      cases a
      exact .cons _ _ (ih _ b)

theorem script_of {l : OpenLaw} {n : Nat} (hn : l.most = some n) {P : Params} {h : Heap} {args : List WData} {vals : List Value}
    (hpre : l.row.toRowW.claim.pre args = true) (hwl : WellAll P h vals args) :
    ∃ a vs ns, vals = [Value.ref a] ∧ args = [WData.list (ns.map WData.int)] ∧ h.get? a = some { cls := .type "list", data := .seq vs.toArray } ∧ IntsAre vs ns ∧ ns.length ≤ n := by
  have hsh : WShape.hasAll [] args [.list .int] = true := (pre_splitW hpre).1
  have hc : l.pre.holds [] { args := args } = true := (pre_splitW hpre).2
  obtain ⟨d, r, rfl, h1, h2⟩ := hasAllW_cons hsh
  obtain rfl := hasAllW_nil h2
  obtain ⟨xs, rfl, h3⟩ := hasW_list h1
  obtain ⟨ns, rfl⟩ := items_int h3
  have hlen : ns.length ≤ n := by
    unfold OpenLaw.pre at hc
    have h4 : (WTm.not (.lt (.lit (.int (n : Int))) (.len (.arg 0)))).holds [] { args := [.list (ns.map .int)] } = true := by
      have h4 := (holds_andW hc).1
      rw [hn] at h4
      exact h4
    have h5 := condW_of h4 (w_not (w_lt w_lit (w_len_list (w_arg rfl))))
    rw [List.length_map] at h5
    refine Nat.le_of_not_lt fun q => ?_
    have q' : (n : Int) < ((ns.length : Nat) : Int) := by omega
    first
      | (rw [decide_eq_true q'] at h5; exact absurd h5 (by decide))
      | (simp at h5; omega)
  cases hwl with
  | cons w1 w2 =>
    cases w2
    cases w1 with
    | list ho hall => exact ⟨_, _, ns, rfl, rfl, ho, ints_of_wellAll ns _ hall, hlen⟩

theorem post_true (l : OpenLaw) (args : List WData) : l.row.toRowW.claim.post args (.bool true) args = true :=
  postW_of (r := l.row.toRowW) (X := (true == true))
    (show WShape.has [] (.bool true) .bool = true by first | rfl | decide | simp [WShape.has, WShape.arms, WShape.armsAll])
    (show (WTm.eq .res (.lit (.bool true))).value [] { args := args, res := some (.bool true), after := args } = some (.bool (true == true)) from w_eq_bool (w_res rfl) w_lit) rfl

/-! ### the attachment: holds_open's last premise (the goal 'hc' behind k_head) from a wpAny of the law's body -/
theorem attach {l : OpenLaw} {n : Nat} {q : Program} {loose : List Str} {XP : (Str → Option Value) → Heap → Prop} {YP : World → Heap → Prop} {d : DefRec} {x : Str}
    (hn : l.most = some n) (hdf : d.params.defaults = [])
    (hbind : ∀ pm cd doc v : Value, bindArgs (docDef d.name d.params d.body d.scope pm cd doc) ⟨[v], []⟩ = pure [(x, v)])
    (hx : d.scope.names.lookup x = some .local ∨ d.scope.names.lookup x = some .cell)
    (hk : d.scope.kind = .function) (hco : d.scope.isCoroutine = false) (hgen : d.scope.isGenerator = false)
    (body : ∀ (w : World) (s₀ s₁ s : Shared) (mg mb : Str → Option Value) (fa : Addr) (o : Obj) (pm cd doc : Value) (a : Addr) (vs : List Value) (ns : List Int),
      Ground q loose [] XP w s₀ mg mb s₁.heap → YP w s₁.heap →
      s₁.heap.get? fa = some o → o.data = .func (docDef d.name d.params d.body d.scope pm cd doc) → s₁.heap.CodeRec cd d.name → mg d.name = some (.ref fa) →
      s₁.heap.get? a = some { cls := .type "list", data := .seq vs.toArray } → IntsAre vs ns → ns.length ≤ n →
      s.gens = #[] → s.os = s₁.os →
      Fr s₁.heap s₁.heap.objs.size s.heap (bindL (envOfC d.name d.scope s₁.heap.objs.size fa cd).kindOf [(x, .ref a)] fun _ => none) →
      Cl s₁.heap.objs.size (cellsFrom (s₁.heap.objs.size + 1) d.scope.names []) s.heap (bindC (envOfC d.name d.scope s₁.heap.objs.size fa cd).kindOf [(x, .ref a)] fun _ => none) →
      wpAny (model l.prog w) (callerA.deeper (envOfC d.name d.scope s₁.heap.objs.size fa cd)) (execs d.body (envOfC d.name d.scope s₁.heap.objs.size fa cd))
        (fun f s' => f = .ret (.bool true) ∧ OldK s₁.heap s'.heap ∧ s'.os = s₁.os ∧ AllBare s'.gens) (fun _ _ => False) s) :
    WalkO q loose XP YP l.row.toRowW d [] (fun f vs => PySem.call f vs) := by
  intro w s₀ s₁ mg mb G Y fa o pm cd doc dV kV ho hd hcd hD hmg hg args vals as hpre hlay hrd hwl hlo
  obtain rfl : dV = .none := Dflts.none hD hdf
  obtain rfl : kV = .none := Dflts.noKw hD
  obtain ⟨a, vs, ns, rfl, rfl, hobj, hints, hlen⟩ := script_of hn hpre hwl
  refine enter_call ?_
  refine call_cells_ret (o := o) (by rw [depth_caller]; decide) ho (fd_plain hd) G.T.nolimit hcd (hbind pm cd doc (.ref a)) (fun y hy => ?_) (fun h₁ tk F X => ?_) hco hgen hk
  · obtain rfl : y = (x, Value.ref a) := List.mem_singleton.mp hy
    rcases hx with e | e
    · exact .inl e
    · exact .inr ⟨e, cellsFrom_some _ _ _ (.inl e)⟩
  · refine wpAny_mono (body w s₀ s₁ { s₁ with heap := h₁, toks := tk } mg mb fa o pm cd doc a vs ns G Y ho (fd_plain hd) hcd hmg hobj hints hlen hg rfl F X) (fun f s' hq => ?_) (fun _ _ hq => hq)
    obtain ⟨rfl, h2, h3, h4⟩ := hq
    exact ⟨.inl ⟨.bool true, .bool true, [], rfl, fun _ => rfl, .bool true, post_true l _, fun _ => ⟨List.Pairwise.nil, fun _ hm => (nomatch hm)⟩⟩, h2, h3, h4⟩

/-- the same from a codeAny of the CALL (for a layer whose function contracts speak of calls) -/
theorem attach_call {l : OpenLaw} {n : Nat} {q : Program} {loose : List Str} {XP : (Str → Option Value) → Heap → Prop} {YP : World → Heap → Prop} {d : DefRec}
    (hn : l.most = some n) (hdf : d.params.defaults = [])
    (call : ∀ (w : World) (s₀ s₁ : Shared) (mg mb : Str → Option Value) (fa : Addr) (o : Obj) (pm cd doc : Value) (a : Addr) (vs : List Value) (ns : List Int),
      Ground q loose [] XP w s₀ mg mb s₁.heap → YP w s₁.heap →
      s₁.heap.get? fa = some o → o.data = .func (docDef d.name d.params d.body d.scope pm cd doc) → s₁.heap.CodeRec cd d.name → mg d.name = some (.ref fa) →
      s₁.heap.get? a = some { cls := .type "list", data := .seq vs.toArray } → IntsAre vs ns → ns.length ≤ n → s₁.gens = #[] →
      codeAny (model l.prog w) callerA (.call (.ref fa) ⟨[.ref a], []⟩) (fun r s' => r = .ok (.ret (.bool true)) ∧ OldK s₁.heap s'.heap ∧ s'.os = s₁.os ∧ AllBare s'.gens) s₁) :
    WalkO q loose XP YP l.row.toRowW d [] (fun f vs => PySem.call f vs) := by
  intro w s₀ s₁ mg mb G Y fa o pm cd doc dV kV ho hd hcd hD hmg hg args vals as hpre hlay hrd hwl hlo
  obtain rfl : dV = .none := Dflts.none hD hdf
  obtain rfl : kV = .none := Dflts.noKw hD
  obtain ⟨a, vs, ns, rfl, rfl, hobj, hints, hlen⟩ := script_of hn hpre hwl
  refine enter_call (codeAny_mono (call w s₀ s₁ mg mb fa o pm cd doc a vs ns G Y ho (fd_plain hd) hcd hmg hobj hints hlen hg) fun r s' hq => ?_)
  obtain ⟨rfl, h2, h3, h4⟩ := hq
  exact ⟨.inl ⟨.bool true, .bool true, [], rfl, fun _ => rfl, .bool true, post_true l _, fun _ => ⟨List.Pairwise.nil, fun _ hm => (nomatch hm)⟩⟩, h2, h3, h4⟩

/-- the same where the top left finished generators (o_head chose holds_openN): nothing may have changed at all and no generator may be left -/
theorem attachN {l : OpenLaw} {n : Nat} {q : Program} {loose : List Str} {XP : (Str → Option Value) → Heap → Prop} {YP : World → Heap → Prop} {d : DefRec} {x : Str}
    (hn : l.most = some n) (hdf : d.params.defaults = [])
    (hbind : ∀ pm cd doc v : Value, bindArgs (docDef d.name d.params d.body d.scope pm cd doc) ⟨[v], []⟩ = pure [(x, v)])
    (hx : d.scope.names.lookup x = some .local ∨ d.scope.names.lookup x = some .cell)
    (hk : d.scope.kind = .function) (hco : d.scope.isCoroutine = false) (hgen : d.scope.isGenerator = false)
    (body : ∀ (w : World) (s₀ s₁ s : Shared) (mg mb : Str → Option Value) (fa : Addr) (o : Obj) (pm cd doc : Value) (a : Addr) (vs : List Value) (ns : List Int),
      Ground q loose [] XP w s₀ mg mb s₁.heap → YP w s₁.heap →
      s₁.heap.get? fa = some o → o.data = .func (docDef d.name d.params d.body d.scope pm cd doc) → s₁.heap.CodeRec cd d.name → mg d.name = some (.ref fa) →
      s₁.heap.get? a = some { cls := .type "list", data := .seq vs.toArray } → IntsAre vs ns → ns.length ≤ n →
      s.gens = #[] → s.os = s₁.os →
      Fr s₁.heap s₁.heap.objs.size s.heap (bindL (envOfC d.name d.scope s₁.heap.objs.size fa cd).kindOf [(x, .ref a)] fun _ => none) →
      Cl s₁.heap.objs.size (cellsFrom (s₁.heap.objs.size + 1) d.scope.names []) s.heap (bindC (envOfC d.name d.scope s₁.heap.objs.size fa cd).kindOf [(x, .ref a)] fun _ => none) →
      wpAny (model l.prog w) (callerA.deeper (envOfC d.name d.scope s₁.heap.objs.size fa cd)) (execs d.body (envOfC d.name d.scope s₁.heap.objs.size fa cd))
        (fun f s' => f = .ret (.bool true) ∧ (∀ b o, s₁.heap.get? b = some o → s'.heap.get? b = some o) ∧ s'.os = s₁.os ∧ s'.gens = #[]) (fun _ _ => False) s) :
    WalkN q loose XP YP l.row.toRowW d [] (fun f vs => PySem.call f vs) := by
  intro w s₀ s₁ mg mb G Y fa o pm cd doc dV kV ho hd hcd hD hmg hg args vals as hpre hlay hrd hwl hlo
  obtain rfl : dV = .none := Dflts.none hD hdf
  obtain rfl : kV = .none := Dflts.noKw hD
  obtain ⟨a, vs, ns, rfl, rfl, hobj, hints, hlen⟩ := script_of hn hpre hwl
  refine enter_callW ?_
  refine call_cells_ret (o := o) (by rw [depth_caller]; decide) ho (fd_plain hd) G.T.nolimit hcd (hbind pm cd doc (.ref a)) (fun y hy => ?_) (fun h₁ tk F X => ?_) hco hgen hk
  · obtain rfl : y = (x, Value.ref a) := List.mem_singleton.mp hy
    rcases hx with e | e
    · exact .inl e
    · exact .inr ⟨e, cellsFrom_some _ _ _ (.inl e)⟩
  · refine wpAny_mono (body w s₀ s₁ { s₁ with heap := h₁, toks := tk } mg mb fa o pm cd doc a vs ns G Y ho (fd_plain hd) hcd hmg hobj hints hlen hg rfl F X) (fun f s' hq => ?_) (fun _ _ hq => hq)
    obtain ⟨rfl, h2, h3, h4⟩ := hq
    exact ⟨.inl ⟨.bool true, .bool true, [], rfl, fun _ => rfl, .bool true, post_true l _, fun _ => ⟨List.Pairwise.nil, fun _ hm => (nomatch hm)⟩⟩, h2, h3, h4⟩

/-! ### rules over ANY heap (no ledger) from facts about the written part K: the library's own take a ledger (News) for what they write -/
section
variable {prog : Program} {w : World} {A : Around} {E : Value → Shared → Prop} {s : Shared} {K : Frag}

/-- a def of the module, or a method (qual 'C.m'), entered: the frame is the next address; cells behind it -/
theorem call_fn {R : Result → Shared → Prop} {name qual : Str} {params : Arguments} {body : List Stmt} {scope : Scope} {dV kV doc pm cdv ct oc : Value} {an od : Option Addr} {osl : Array (Option Value)} {f : Addr} {args : Args} {binds : List (Str × Value)}
    (X : K.In s.heap) (hlim : s.heap.NoLimit) (ho : K.lookup f = some ⟨oc, od, .func (fnOf name qual params body scope dV kV doc pm an cdv ct), osl⟩) (hcd : codeIn K cdv qual = true) (hroom : A.depth < recursionLimit)
    (hbind : BindsTo s (fnOf name qual params body scope dV kV doc pm an cdv ct) args binds)
    (hkind : (binds.all fun y => scope.names.lookup y.1 == some .local || scope.names.lookup y.1 == some .cell) = true)
    (h : ∀ s₁, InCallC s s.heap.objs.size (bindL (envOfC qual scope s.heap.objs.size f cdv).kindOf binds fun _ => none) (cellsFrom (s.heap.objs.size + 1) scope.names [])
        (bindC (envOfC qual scope s.heap.objs.size f cdv).kindOf binds fun _ => none) s₁ →
      wpAny (model prog w) (A.deeper (envOfC qual scope s.heap.objs.size f cdv)) (execs body (envOfC qual scope s.heap.objs.size f cdv))
        (fun fl s' => R (.ok (.ret (match fl with | .ret v => v | _ => .none))) s')
        (fun e s' => wpAny (model prog w) (A.deeper (envOfC qual scope s.heap.objs.size f cdv)) (leaving (envOfC qual scope s.heap.objs.size f cdv) e) (fun _ s'' => R (.error e) s'') (fun e' s'' => R (.error e') s'') s') s₁)
    (hco : scope.isCoroutine = false) (hgen : scope.isGenerator = false) (hk : scope.kind = .function) : codeAny (model prog w) A (.call (.ref f) args) R s := by
  refine codeAny_call_function hroom (X _ _ ho) rfl hco hgen rfl (codeRec_of X hcd) (hbind _ _ _ _ ?_)
  refine wpAny_newFunctionEnv_cells hk (kindsX hkind _) fun env he s₁ x => ?_
  subst he
  exact ⟨hlim.keeps x.toInCall.keep, codeAny_func (h s₁ x)⟩

/-- C(..): dict at size, instance at size + 1, then __init__ -/
theorem make_obj {R : Result → Shared → Prop} {C fI : Addr} {rest : List Value} {kw : List (Str × Value)}
    (X : K.In s.heap) (hm : makesIn K C = true) (hi : findIn K (.ref C) "__init__" = some (some (.ref fI))) (hf : isFn K (.ref fI) = true)
    (h : codeAny (model prog w) (A.under (.builtin "type.__call__" ⟨.ref C :: rest, kw⟩)) (.call (.ref fI) ⟨.ref (s.heap.objs.size + 1) :: rest, kw⟩) (InitBack (s.heap.objs.size + 1) R)
      { s with heap := (s.heap.push emptyDict).push (instObj C s.heap.objs.size) }) : codeAny (model prog w) A (.call (.ref C) ⟨rest, kw⟩) R s := by
  obtain ⟨hh, g, d, t, os⟩ := s
  exact make_core (makes_of X hm) (looks_findIn X hi) (fun self => bind_fn X self (beq_iff_eq.mp hf)) (.inl rfl) h

/-- x.name where the instance's dict holds the name and the class does not -/
theorem get_field {x C : Addr} {ox : Obj} {es : List DictEntry} {n : Nat} {name : Str} {expr : Bool} {v : Value} {Q : Value → Shared → Prop}
    (X : K.In s.heap) (I : PySem.W.InstAt s.heap x ox C (some (dictOf es n))) (hg : plainGet K C name = true) (hh : hasDictIn K C = true) (ha : findIn K (.ref C) name = some none)
    (hl : getL name es = some (some v)) (hv : handedIn v = true) (h : Q v { s with toks := s.toks + 1 }) : wpAny (model prog w) A (getAttr (.ref x) name expr) Q E s :=
  get_value X I (plainGet_of hg).1 (findObj_own hh ha rfl hl) hv h

/-- x.m(..): the method found in the class -/
theorem get_method {x C f : Addr} {ox : Obj} {es : List DictEntry} {n : Nat} {name : Str} {pl : Sem Bool} {Q : Value × List Value → Shared → Prop}
    (X : K.In s.heap) (I : PySem.W.InstAt s.heap x ox C (some (dictOf es n))) (hg : plainGet K C name = true) (hf : findIn K (.ref C) name = some (some (.ref f))) (ht : isFn K (.ref f) = true)
    (hl : getL name es = some none) (h : Q (.ref f, [.ref x]) s) : wpAny (model prog w) A (getMethod (.ref x) name pl) Q E s :=
  method_fn X I (plainGet_of hg).1 (plainGet_of hg).2 hf (beq_iff_eq.mp ht) (by show (lookIn name (dictOf es n)).map _ = _; rw [lookIn_dict, hl]; rfl) h

/-! the whole heap as the ledger: makes every rule that writes through a ledger a rule over any heap -/
def noObjs (h : Heap) : Heap := { h with objs := #[] }
theorem noObjs_get (h : Heap) (b : Addr) : (noObjs h).get? b = none := by
  cases e : (noObjs h).get? b with
  | none => rfl
  | some o => exact absurd (Heap.lt_size e) (Nat.not_lt_zero _)
def ledger (h : Heap) (L d : Addr) : List (Addr × Obj) := (List.range h.objs.size).filterMap fun a => if a = L ∨ a = d then none else (h.get? a).map fun o => (a, o)
theorem mem_ledger {h : Heap} {L d a : Addr} {o : Obj} : (a, o) ∈ ledger h L d ↔ a ≠ L ∧ a ≠ d ∧ h.get? a = some o := by
  unfold ledger
  rw [List.mem_filterMap]
  constructor
  · rintro ⟨b, _, e⟩
    split at e
    · cases e
    · rename_i hb
      obtain ⟨o', ho, e'⟩ := Option.map_eq_some_iff.mp e
      cases e'
      exact ⟨fun q => hb (.inl q), fun q => hb (.inr q), ho⟩
  · rintro ⟨n1, n2, ho⟩
    refine ⟨a, List.mem_range.mpr (Heap.lt_size ho), ?_⟩
    rw [if_neg (show ¬ (a = L ∨ a = d) from fun q => q.elim n1 n2), ho] <;> rfl
theorem news_ledger {h : Heap} {L d : Addr} {od : Obj} (hne : d ≠ L) (ho : h.get? d = some od) : News (noObjs h) L h ([] ++ (d, od) :: ledger h L d) := by
  rintro ⟨a, o⟩ hp
  rcases List.mem_cons.mp hp with e | hp
  · cases e
    exact ⟨ho, hne, noObjs_get _ _⟩
  · obtain ⟨n1, n2, e⟩ := mem_ledger.mp hp
    exact ⟨e, n1, noObjs_get _ _⟩
theorem fr_all {h : Heap} {L : Addr} {m : Str → Option Value} (n : h.Ns L m) : Fr (noObjs h) L h m :=
  ⟨n, fun b o e => (by rw [noObjs_get] at e; cases e), Nat.zero_le _⟩
/-- Upd of the head entry (for append_K, setItem_K ..) -/
theorem upd_ledger {h : Heap} {L d : Addr} {o o' : Obj} : Upd d o o' ((d, o) :: ledger h L d) ((d, o') :: ledger h L d) :=
  .head fun ⟨_, _⟩ hp => (mem_ledger.mp hp).2.1

/-- x.name = v over any heap: L is any namespace of the heap (the frame's, say): its map stays, its object is not told; all else but the dict stays -/
theorem set_field {x C dx L : Addr} {ox : Obj} {m : Str → Option Value} {es es' : List DictEntry} {n n' : Nat} {name : Str} {v : Value} {Q : Unit → Shared → Prop}
    (X : K.In s.heap) (I : PySem.W.InstAt s.heap x ox C (some (dictOf es n))) (hd : ox.dict = some dx) (hL : s.heap.Ns L m) (hne : dx ≠ L)
    (hs : findIn K (.ref C) "__setattr__" = some (some (.builtin "object.__setattr__"))) (hp : plainOver K C = true) (ht : takerIn K C name = some none) (hh : hasDictIn K C = true) (hl : (getL name es).isSome = true)
    (e : (putL name (PyData.keyHash w.params name) (.str name (s.toks + 1)) v es, putN name es n) = (es', n')) (hz : es'.length ≤ 1000)
    (h : ∀ h' : Heap, h'.Ns L m → h'.get? dx = some (dictOf es' n') → (∀ b o, b ≠ dx → b ≠ L → s.heap.get? b = some o → h'.get? b = some o) → Q () { s with heap := h', toks := s.toks + 2 }) :
    wpAny (model prog w) A (setAttr (.ref x) name v) Q E s := by
  obtain ⟨e1, e2⟩ := Prod.mk.inj e
  have hdx : s.heap.get? dx = some (dictOf es n) := by
    have := I.dict
    rw [hd] at this
    exact this
  refine set_plain X I hs (osa_dict (s := { s with toks := s.toks + 1 }) (h₀ := noObjs s.heap) (L := L) (m := m) (od := dictOf es n) (od' := dictOf es' n') (es := es') (n := n') (pre := []) (post := ledger s.heap L dx)
    (fr_all hL) (news_ledger hne hdx) X I hd hp ht hh hl (fun _ q => nomatch q) (fun ⟨_, _⟩ q => (mem_ledger.mp q).2.1) (by rw [putName_dict, e1, e2]) rfl hz fun h' F' N' => ?_)
  exact h h' F'.ns (N'.get (List.Mem.head _)) fun b o n1 n2 ho => N'.get (List.Mem.tail _ (mem_ledger.mpr ⟨n2, n1, ho⟩))
end
end Att

namespace L2
open PySem PySem.Spec PyProof.Rows

theorem vals_ints : ∀ {vs : List Value} {ns : List Int}, IntsAre vs ns → Vals (ns.map V.int) vs
  | _, _, .nil => .nil
  | _, _, .cons n t h => .cons ⟨t, rfl⟩ (vals_ints h)

/-- nothing is tracked but the script, known to the object (or it is an object of the module) -/
def Only (H : Hp) : Prop := ∀ b, H b = none ∨ ∃ o xs, H b = some (.frz o (.lst xs))

/-- THE HEAD: the law's promise, at the heap behind the top. F, the promise of the law's def, may use that base is part of the heap (so K.In base, base.Ns mainGlobals mg stand in Mod) -/
theorem law_call {P : Program} {w : World} {K : PySem.W.Frag} {mg mb : Str → Option Value} {CX : CXT} {k : Nat} {fa a : Addr} {fd : FuncData} {x : Str} {sp : Sp} {s₁ : Shared} {vs : List Value} {ns : List Int}
    (KX : K.In s₁.heap) (hns : s₁.heap.Ns mainGlobals mg) (hb : s₁.heap.Ns builtinsNs mb) (hbb : ∀ x : Str, x ≠ "__name__" → mb x = bootBuiltins x) (hlim : s₁.heap.NoLimit) (hg : s₁.gens = #[])
    (ha : s₁.heap.get? a = some { cls := .type "list", data := .seq vs.toArray }) (hi : IntsAre vs ns) (hl : ns.length ≤ sizeLine) (hr : Room k callerA)
    (F : ∀ base : Heap, K.In base → base.Ns mainGlobals mg → FnOk P w K mg base CX k fa fd [x] sp) (hbind : ∀ (s : Shared) (u : Value), BindsTo s fd ⟨[u], []⟩ [(x, u)])
    (hsp : ∀ H : Hp, Only H → SqL K H a (ns.map V.int) → sp [.ref a] H (fun v _ => v = .bl true) fun _ _ _ => False)
    (hCX : ∀ H e s', CX [] H s₁ (fun _ _ _ => False) e s' → False) :
    codeAny (model P w) callerA (.call (.ref fa) ⟨[.ref a], []⟩) (fun r s' => r = .ok (.ret (.bool true)) ∧ OldK s₁.heap s'.heap ∧ s'.os = s₁.os ∧ AllBare s'.gens) s₁ := by
  have rv := vals_ints hi
  have lenV := hi.length
  -- from an abstract heap in which nothing but the script may be tracked
  have core : ∀ H : Hp, Only H → SqL K H a (ns.map V.int) → HOk P w H s₁.heap → (∀ b, H b ≠ none → b = a) → (H a ≠ none → K.lookup a = none) →
      codeAny (model P w) callerA (.call (.ref fa) ⟨[.ref a], []⟩) (fun r s' => r = .ok (.ret (.bool true)) ∧ OldK s₁.heap s'.heap ∧ s'.os = s₁.os ∧ AllBare s'.gens) s₁ := by
    intro H hO hS hok hA hK
    have base_of : ∀ {b : Addr} {o : Obj}, s₁.heap.get? b = some o → H b = none → (hidT s₁.heap H).get? b = some o := fun e n => hidT_get e n
    have noA : ∀ {b : Addr} {o : Obj} {es : Array DictEntry} {ep : Nat}, s₁.heap.get? b = some o → o.data = .dict es ep → H b = none := fun {b o es ep} e d => by
      cases q : H b with
      | none => rfl
      | some u =>
        have e' : b = a := hA b (by rw [q]; simp)
        subst e'
        rw [ha] at e; cases e
        have d' : Data.seq vs.toArray _ = Data.dict es ep := d
        cases d'
    have nsK : ∀ {b : Addr} {m : Str → Option Value}, s₁.heap.Ns b m → (hidT s₁.heap H).Ns b m := fun {b m} ⟨o, es, ep, e, d, r⟩ => ⟨o, es, ep, base_of e (noA e d), d, r⟩
    have hKb : K.In (hidT s₁.heap H) := fun b o e => base_of (KX b o e) (by
      cases q : H b with
      | none => rfl
      | some u =>
        have e' : b = a := hA b (by rw [q]; simp)
        subst e'
        rw [hK (by rw [q]; simp)] at e; cases e)
    have hM : Mod K mg (hidT s₁.heap H) := ⟨hKb, nsK hns, ⟨mb, nsK hb, hbb⟩, let ⟨mc, h1, h2⟩ := hlim; ⟨mc, nsK h1, h2⟩⟩
    have e0 : Env0 P w K mg (hidT s₁.heap H) callerA [] s₁ H := ⟨rfl, hM, fun b o e => of_hidT e, Nat.le_of_eq (hidT_size _ _), trivial, fun b hb => absurd (show b ∈ ([] : List Addr) from hb) (by simp), hok, .of_eq hg⟩
    refine codeAny_mono ((F _ hKb (nsK hns)).run callerA [] s₁ H ⟨[.ref a], []⟩ [.ref a] [.ref a] _ _ hr e0 (hbind s₁ (.ref a)) (.cons rfl .nil) (hsp H hO hS)) fun r s' h => ?_
    cases r with
    | error e => exact (hCX H e s' h).elim
    | ok fl =>
      cases fl with
      | next => exact False.elim h
      | brk => exact False.elim h
      | cont => exact False.elim h
      | ret u =>
        obtain ⟨v, H', os, bare, un, hok', r', q⟩ := h
        have q' : v = .bl true := q
        subst q'
        obtain rfl : u = Value.bool true := r'
        refine ⟨rfl, OldK.of_keep fun b o e => ?_, os, bare⟩
        cases q : H b with
        | none => exact un.keep b o e q (by intro z; exact absurd (show b ∈ ([] : List Addr) from z) (by simp)) (by simp)
        | some u =>
          rcases hO b with z | ⟨ob, xs, z⟩
          · rw [q] at z; cases z
          · have z2 := un.frzs b ob _ z
            obtain ⟨e1, _⟩ := hok b _ z
            obtain ⟨e2, _⟩ := hok' b _ z2
            rw [e] at e1; cases e1
            exact e2
  cases hk : K.lookup a with
  | some o =>
    -- the script is one of the module's own objects
    have e := KX a o hk
    rw [ha] at e
    cases e
    refine core (fun _ => none) (fun _ => .inl rfl) (.inr ⟨_, vs.toArray, _, hk, rfl, rfl, rfl, by rw [List.size_toArray, lenV]; exact hl, by simpa using rv⟩) (fun b u z => by have z' : (none : Option HO) = some u := z; cases z') (fun b z => absurd rfl z) fun z => absurd rfl z
  | none =>
    refine core (fun b => if b = a then some (.frz { cls := .type "list", data := .seq vs.toArray } (.lst (ns.map V.int))) else none) (fun b => ?_) (.inl (.inr ⟨{ cls := .type "list", data := .seq vs.toArray }, if_pos rfl⟩)) (fun b u z => ?_) (fun b z => ?_) fun _ => hk
    · by_cases hb : b = a
      · exact .inr ⟨_, _, if_pos hb⟩
      · exact .inl (if_neg hb)
    · by_cases hb : b = a
      · have z' := (if_pos hb).symm.trans z
        cases z'
        subst hb
        exact ⟨ha, by rw [List.length_map]; exact hl, vs, _, rv, ha⟩
      · have z' := (if_neg hb).symm.trans z
        cases z'
    · by_cases hb : b = a
      · exact hb
      · exact absurd (if_neg hb) z
end L2

namespace L2
open PySem PySem.Spec PyProof.Rows

abbrev KOf {K : PySem.W.Frag} {h : Heap} (_ : K.In h) : PySem.W.Frag := K

/-- the goal that k_head leaves (case hc), from the law's promise. F gives the function object fd (K's own) once, then the promise over every base -/
theorem walk_of {l : PySem.W.OpenLaw} {n k : Nat} {q : Program} {loose : List Str} {XP : (Str → Option Value) → Heap → Prop} {YP : World → Heap → Prop} {d : DefRec} {K : Params → PySem.W.Frag} {CX : World → CXT} {sp : World → Sp} {x : Str}
    (hn : l.most = some n) (hn2 : n ≤ sizeLine) (hdf : d.params.defaults = []) (hr : Room k callerA)
    (hY : ∀ (w : World) (h : Heap), YP w h → (K w.params).In h)
    (F : ∀ (w : World) (mg : Str → Option Value) (fa : Addr) (h : Heap), (K w.params).In h → h.Ns mainGlobals mg → mg d.name = some (.ref fa) →
      ∃ fd : FuncData, (∀ (s : Shared) (u : Value), BindsTo s fd ⟨[u], []⟩ [(x, u)]) ∧
        ∀ base : Heap, (K w.params).In base → base.Ns mainGlobals mg → FnOk l.prog w (K w.params) mg base (CX w) k fa fd [x] (sp w))
    (hsp : ∀ (w : World) (H : Hp) (a : Addr) (ns : List Int), ns.length ≤ n → Only H → SqL (K w.params) H a (ns.map V.int) → sp w [.ref a] H (fun v _ => v = .bl true) fun _ _ _ => False)
    (hCX : ∀ (w : World) (H : Hp) (s : Shared) (e : Value) (s' : Shared), CX w [] H s (fun _ _ _ => False) e s' → False) :
    PySem.W.WalkO q loose XP YP l.row.toRowW d [] (fun f vs => PySem.call f vs) := by
  refine Att.attach_call hn hdf fun w s₀ s₁ mg mb fa o pm cd doc a vs ns G Y ho hd hcd hmg hobj hints hlen hg => ?_
  have KX := hY w _ Y
  obtain ⟨fd, hb, hF⟩ := F w mg fa _ KX G.T.g hmg
  exact law_call KX G.T.g G.T.b G.T.builtins G.T.nolimit hg hobj hints (Nat.le_trans hlen hn2) hr hF hb (fun H hO hS => hsp w H a ns hlen hO hS) fun H e s' => hCX w H s₁ e s'
/-- the same where the promise hangs on the written part alone: (sp := My.sp_law), no hole under a binder -/
theorem walk_ofK {l : PySem.W.OpenLaw} {n k : Nat} {q : Program} {loose : List Str} {XP : (Str → Option Value) → Heap → Prop} {YP : World → Heap → Prop} {d : DefRec} {K : Params → PySem.W.Frag} {CX : CXT} {sp : PySem.W.Frag → Sp} {x : Str}
    (hn : l.most = some n) (hn2 : n ≤ sizeLine) (hdf : d.params.defaults = []) (hr : Room k callerA)
    (hY : ∀ (w : World) (h : Heap), YP w h → (K w.params).In h)
    (F : ∀ (w : World) (mg : Str → Option Value) (fa : Addr) (h : Heap), (K w.params).In h → h.Ns mainGlobals mg → mg d.name = some (.ref fa) →
      ∃ fd : FuncData, (∀ (s : Shared) (u : Value), BindsTo s fd ⟨[u], []⟩ [(x, u)]) ∧
        ∀ base : Heap, (K w.params).In base → base.Ns mainGlobals mg → FnOk l.prog w (K w.params) mg base CX k fa fd [x] (sp (K w.params)))
    (hsp : ∀ (K : PySem.W.Frag) (H : Hp) (a : Addr) (ns : List Int), ns.length ≤ n → Only H → SqL K H a (ns.map V.int) → sp K [.ref a] H (fun v _ => v = .bl true) fun _ _ _ => False)
    (hCX : ∀ (H : Hp) (s : Shared) (e : Value) (s' : Shared), CX [] H s (fun _ _ _ => False) e s' → False) :
    PySem.W.WalkO q loose XP YP l.row.toRowW d [] (fun f vs => PySem.call f vs) :=
  walk_of (K := K) (CX := fun _ => CX) (sp := fun w => sp (K w.params)) hn hn2 hdf hr hY F (fun w H a ns h1 h2 h3 => hsp (K w.params) H a ns h1 h2 h3) fun _ H s e s' => hCX H s e s'
end L2

/- THE LAST THEOREM (shape; LID, My.* are yours):
   My.Adr: a structure of the addresses that your layer names (classes, functions); My.Txt K t: a structure (Prop) of the equations over K;
   My.txt_mk : {K} {implicit addresses ..} (e1 : nsIn K mainGlobals "law" = some (some (.ref f))) (e2 : K.lookup f = some ⟨oc, od, .func (fnOf "law" "law" params body scope dV kV doc pm an cdv ct), sl⟩) (e3 : codeIn K cdv "law" = true) .. : ∃ t, My.Txt K t

set_option maxRecDepth 100000 in
set_option maxHeartbeats 0 in
theorem PySem.Challenge.cw_LID_holds : PySem.Challenge.rw_LID.Holds := by
  w_on; o_law; k_head; (case hw => w_witness2)
  k_fill
  refine L2.walk_of (l := PySem.Challenge.rw_LID) (n := 63) (k := 40) (x := "script") (CX := fun w => ..) (sp := fun _ => My.sp_law) rfl (by decide) rfl ⟨rfl, by decide, by decide⟩ (fun w h Y => PySem.W.kIn_of Y) ?F ?S ?C
  case F =>
    intro w mg fa h KX G hmg
    have T : ∃ t, My.Txt (L2.KOf KX) t := by
      dsimp only [L2.KOf]                          -- K must stand as «<heap const> w.params» for k_is
      refine' My.txt_mk ?e1 ?e2 ?e3 ..
      (case e1 => PySem.W.k_is)                    -- in the order: a name -> its address -> its object -> its parts
      (case e2 => PySem.W.k_is)
      ..
    obtain ⟨t, T⟩ := T
    have e0 := hmg.symm.trans (PySem.W.mg_of KX G T.law)
    cases e0                                       -- fa is the law's own address
    exact ⟨_, fun s u => .of_eq rfl, fun base kb nb => My.law_fn T kb nb⟩     -- if «.of_eq rfl» comes too early: refine' ⟨_, ?b, fun base kb nb => My.law_fn T kb nb⟩; exact fun s u => .of_eq rfl
  case S => exact fun w H a ns hl hO hS => ..
  case C => exact ..
(the tactic k_is has no namespace: write k_is) -/

/-! SHORT WORDS over the layer: a def of the text, its body, what a loop and a test want. -/
namespace L2
open PySem PySem.Spec PyProof.Rows

/-! ### the text by places -/
/-- the j-th statement of a class's body -/
def inClass (s : Stmt) (j : Nat) : Stmt := match s with
  | .ClassDef _ _ _ body _ _ _ _ _ _ _ => body.getD j (.Pass ⟨0, 0, 0, 0⟩)
  | _ => .Pass ⟨0, 0, 0, 0⟩
def defArgs (s : Stmt) : Arguments := match s with
  | .FunctionDef _ a _ _ _ _ _ _ _ _ => a
  | _ => { posonlyargs := [], args := [], vararg := none, kwonlyargs := [], kw_defaults := [], kwarg := none, defaults := [] }
def defBody (s : Stmt) : List Stmt := match s with
  | .FunctionDef _ _ b _ _ _ _ _ _ _ => b
  | _ => []
def defScope (s : Stmt) : Scope := match s with
  | .FunctionDef _ _ _ _ _ _ sc _ _ _ => sc
  | _ => { kind := .function, names := [], isGenerator := false, isCoroutine := false }

/-! ### no exception leaves a def -/
abbrev CX0 : CXT := fun _ _ _ _ _ _ => False
abbrev E0 : XK := fun _ _ _ => False
theorem pass0 {X : Cx} : Passes CX0 X E0 := fun _ _ _ _ _ _ _ h => h.elim

/-! ### a def (or method) of the text as it stands behind the top -/
structure Fun (K : PySem.W.Frag) (x qual : Str) (st : Stmt) (f : Addr) (fd : FuncData) : Prop where
  ex : ∃ (oc : Value) (od : Option Addr) (kV doc pm : Value) (an : Option Addr) (cdv ct : Value) (osl : Array (Option Value)),
    fd = PySem.W.fnOf x qual (defArgs st) (defBody st) (defScope st) .none kV doc pm an cdv ct ∧ K.lookup f = some ⟨oc, od, .func fd, osl⟩ ∧ PySem.W.codeIn K cdv qual = true
  kp : PySem.W.keepIn K (.ref f) = true
section
variable {P : Program} {w : World} {K : PySem.W.Frag} {mg : Str → Option Value} {base : Heap}
/-- THE RULE for a def: its body as a term of rules, and the reading of that term -/
theorem Fun.ok {x qual : Str} {st : Stmt} {f : Addr} {fd : FuncData} {N ps : List Str} {k : Nat} {sp : Sp} (F : Fun K x qual st f fd) (S : FnScope N ps (defScope st)) (len : ∀ vs H Q E, sp vs H Q E → vs.length = ps.length)
    (hbody : ∀ (cdv : Value) (A : Around) (outer : List Env) (s : Shared) (H : Hp) (vs : List V) (Q : VK) (E : XK), Room k (A.deeper (envOfC qual (defScope st) s.heap.objs.size f cdv)) → sp vs H Q E →
      ∃ t, PSs (cxOf CX0 P w K mg base N qual (defScope st) f cdv A outer s H E).nox (defBody st) t ∧ t { nx := fun _ H' => Q .non H', rt := Q } (start N vs) H) : FnOk P w K mg base CX0 (k + 1) f fd ps sp := by
  obtain ⟨oc, od, kV, doc, pm, an, cdv, ct, osl, rfl, lk, hcd⟩ := F.ex
  refine fn_of lk hcd S len fun A outer s H vs Q E hr hsp => ?_
  obtain ⟨t, h, q⟩ := hbody cdv A outer s H vs Q E hr hsp
  exact ⟨t, h.nox, q⟩
/-- how its arguments bind (no defaults): h is «fun _ _ _ _ _ _ us hl => match us, hl with | [_, _], _ => rfl», one _ a parameter -/
theorem Fun.binds {x qual : Str} {st : Stmt} {f : Addr} {fd : FuncData} {ps : List Str} (F : Fun K x qual st f fd)
    (h : ∀ (kV doc pm : Value) (an : Option Addr) (cdv ct : Value) (us : List Value), us.length = ps.length → bindArgs (PySem.W.fnOf x qual (defArgs st) (defBody st) (defScope st) .none kV doc pm an cdv ct) ⟨us, []⟩ = pure (ps.zip us)) : Binds K fd ps [] := by
  obtain ⟨oc, od, kV, doc, pm, an, cdv, ct, osl, rfl, lk, hcd⟩ := F.ex
  exact .all (h kV doc pm an cdv ct)
theorem fun_mk {x qual : Str} {st : Stmt} {f : Addr} {oc : Value} {od an : Option Addr} {osl : Array (Option Value)} {kV doc pm cdv ct : Value} (l : K.lookup f = some ⟨oc, od, .func (PySem.W.fnOf x qual (defArgs st) (defBody st) (defScope st) .none kV doc pm an cdv ct), osl⟩)
    (c : PySem.W.codeIn K cdv qual = true) (k : PySem.W.keepIn K (.ref f) = true) : Fun K x qual st f (PySem.W.fnOf x qual (defArgs st) (defBody st) (defScope st) .none kV doc pm an cdv ct) := ⟨⟨oc, od, kV, doc, pm, an, cdv, ct, osl, rfl, l, c⟩, k⟩
end
theorem hu_of {A : Around} {k : Nat} (hr : Room k A) : A.units + 1 < cLine := Nat.lt_of_le_of_lt (Nat.add_le_add_left (by decide : 1 ≤ 64) _) hr.units
theorem small1000 {n : Nat} (h : n ≤ 1000) : n < sizeLine := Nat.lt_of_le_of_lt h (by decide)

/-! ### expressions in short: the name that stands in the i-th slot -/
section
variable {X : Cx}
theorem pv (i : Nat) {x : Str} {pos : Pos} (hN : X.N[i]? = some x := by rfl) (hv : Vis X.env.scope x := by first | exact Or.inl rfl | exact Or.inr (Or.inl rfl) | exact Or.inr (Or.inr rfl)) (hd : (x == ("__debug__" : Str)) = false := by decide)
    (hcd : (x == ("__classdict__" : Str)) = false := by decide) : PE X (.Name x pos) (tVar i) := pe_var hN hv hd hcd
end

/-! ### tests -/
theorem iteF {A B : Prop} (h : B) : if false = true then A else B := by
  rw [if_neg Bool.false_ne_true]
  exact h
theorem iteT {A B : Prop} (h : A) : if true = true then A else B := by
  rw [if_pos rfl]
  exact h
theorem ite2 {c A B : Prop} [Decidable c] (h1 : c → A) (h2 : ¬ c → B) : if c then A else B := by
  by_cases h : c
  · rw [if_pos h]
    exact h1 h
  · rw [if_neg h]
    exact h2 h
theorem iteNS {c A B : Prop} [Decidable c] (hc : c) (h : B) : if (!decide c) = true then A else B := by
  rw [decide_eq_true hc]
  exact iteF h

/-! ### heaps -/
/-- all that was tracked is as it was -/
def Same (H H' : Hp) : Prop := ∀ b o, H b = some o → H' b = some o
theorem Same.refl (H : Hp) : Same H H := fun _ _ h => h
theorem Same.trans {H H1 H2 : Hp} (a : Same H H1) (b : Same H1 H2) : Same H H2 := fun c o h => b c o (a c o h)
theorem Same.free {H H' : Hp} (e : Same H H') {l : Addr} (h : H' l = Option.none) : H l = Option.none := by
  cases q : H l with
  | none => rfl
  | some o =>
    rw [e l o q] at h
    cases h
theorem Same.seq {K : PySem.W.Frag} {H H' : Hp} {a : Addr} {xs : List V} (e : Same H H') (h : SqL K H a xs) : SqL K H' a xs := by
  rcases h with (h | ⟨o, h⟩) | h
  · exact .inl (.inl (e _ _ h))
  · exact .inl (.inr ⟨o, e _ _ h⟩)
  · exact .inr h

end L2

set_option maxHeartbeats 4000000

namespace L2
open PySem PySem.Spec PyProof.Rows

/-! ### lists of pairs as tables -/
section
variable {κ : Type} [DecidableEq κ]
def valV (kvs : List (κ × V)) (k : κ) : Option V := (kvs.find? fun kv => decide (kv.1 = k)).map (·.2)
/-- in its place, or at the end -/
def putK (kvs : List (κ × V)) (k : κ) (v : V) : List (κ × V) :=
  if (kvs.any fun kv => decide (kv.1 = k)) = true then kvs.map (fun kv => if kv.1 = k then (kv.1, v) else kv) else kvs ++ [(k, v)]
def dropK (kvs : List (κ × V)) (k : κ) : List (κ × V) := kvs.filter fun kv => decide (kv.1 ≠ k)

theorem valV_nil {k : κ} : valV ([] : List (κ × V)) k = none := rfl
theorem valV_pos {p : κ × V} {r : List (κ × V)} {k : κ} (e : p.1 = k) : valV (p :: r) k = some p.2 := by simp [valV, List.find?_cons, e]
theorem valV_neg {p : κ × V} {r : List (κ × V)} {k : κ} (e : ¬ p.1 = k) : valV (p :: r) k = valV r k := by simp [valV, List.find?_cons, e]
theorem valV_any (k : κ) : ∀ kvs : List (κ × V), (kvs.any fun kv => decide (kv.1 = k)) = (valV kvs k).isSome
  | [] => rfl
  | p :: r => by
    rw [List.any_cons]
    by_cases e : p.1 = k
    · simp only [valV_pos e, decide_eq_true e, Bool.true_or, Option.isSome_some]
    · rw [valV_neg e, decide_eq_false e, Bool.false_or]; exact valV_any k r
theorem valV_map (k j : κ) (y : V) : ∀ kvs : List (κ × V), valV (kvs.map fun kv => if kv.1 = k then (kv.1, y) else kv) j = (valV kvs j).map fun x => if j = k then y else x
  | [] => rfl
  | p :: r => by
    have ih := valV_map k j y r
    rw [List.map_cons]
    by_cases h : p.1 = k
    · rw [if_pos h]
      by_cases e : p.1 = j
      · rw [valV_pos (p := (p.1, y)) e, valV_pos e, Option.map_some, if_pos (e.symm.trans h)]
      · rw [valV_neg (p := (p.1, y)) e, valV_neg e, ih]
    · rw [if_neg h]
      by_cases e : p.1 = j
      · rw [valV_pos (p := p) e, valV_pos e, Option.map_some, if_neg (fun z => h (e.trans z))]
      · rw [valV_neg (p := p) e, valV_neg e, ih]
theorem valV_snoc (k j : κ) (y : V) : ∀ kvs : List (κ × V), valV kvs k = none → valV (kvs ++ [(k, y)]) j = if j = k then some y else valV kvs j
  | [], _ => by
    by_cases e : k = j
    · rw [if_pos e.symm]; exact valV_pos (p := (k, y)) e
    · rw [if_neg (fun z => e z.symm)]; exact valV_neg (p := (k, y)) e
  | p :: r, hn => by
    rw [List.cons_append]
    have hk : ¬ p.1 = k := fun z => by rw [valV_pos z] at hn; cases hn
    rw [valV_neg hk] at hn
    have ih := valV_snoc k j y r hn
    by_cases e : p.1 = j
    · rw [valV_pos e, valV_pos e, if_neg (fun z => hk (e.trans z))]
    · rw [valV_neg e, valV_neg e, ih]
theorem valV_put (kvs : List (κ × V)) (k j : κ) (y : V) : valV (putK kvs k y) j = if j = k then some y else valV kvs j := by
  unfold putK
  by_cases a : (kvs.any fun kv => decide (kv.1 = k)) = true
  · rw [if_pos a, valV_map]
    rw [valV_any] at a
    by_cases e : j = k
    · obtain ⟨x, hx⟩ := Option.isSome_iff_exists.mp a
      rw [if_pos e, e, hx, Option.map_some, if_pos rfl]
    · rw [if_neg e]
      cases valV kvs j with
      | none => rfl
      | some x => rw [Option.map_some, if_neg e]
  · rw [if_neg a]
    refine valV_snoc k j y kvs ?_
    rw [valV_any] at a
    cases q : valV kvs k with
    | none => rfl
    | some x => rw [q] at a; exact (a rfl).elim
theorem length_putK (kvs : List (κ × V)) (k : κ) (v : V) : (putK kvs k v).length ≤ kvs.length + 1 := by
  unfold putK
  split
  · rw [List.length_map]; omega
  · rw [List.length_append, List.length_cons, List.length_nil]; omega
theorem putK_new {kvs : List (κ × V)} {k : κ} (v : V) (h : valV kvs k = none) : putK kvs k v = kvs ++ [(k, v)] := by
  unfold putK
  rw [valV_any, h]
  exact if_neg (by decide)

theorem RelO.isSome_eq {o : Option V} {u : Option Value} (r : RelO o u) : o.isSome = u.isSome := by
  cases o with
  | none => cases u with
    | none => rfl
    | some _ => exact (show False from r).elim
  | some _ => cases u with
    | none => exact (show False from r).elim
    | some _ => rfl
theorem RelO.getD {o : Option V} {u : Option Value} {d : V} {d' : Value} (r : RelO o u) (rd : RelV d d') : RelV (o.getD d) (u.getD d') := by
  cases o with
  | none => cases u with
    | none => exact rd
    | some _ => exact (show False from r).elim
  | some _ => cases u with
    | none => exact (show False from r).elim
    | some _ => exact r

/-- raw tables of the same keys -/
theorem KV.val {kvs : List (κ × V)} {vs : List (κ × Value)} (r : KV kvs vs) (k : κ) : RelO (valV kvs k) (valueAt vs k) := by
  unfold KV at r
  induction r with
  | nil => exact True.intro
  | @cons p q ps qs h t ih =>
    obtain ⟨h1, h2⟩ := h
    by_cases e : p.1 = k
    · have e' : q.1 = k := h1.symm.trans e
      have b : valueAt (q :: qs) k = some q.2 := by simp [valueAt, List.find?_cons, e']
      rw [valV_pos e, b]; exact h2
    · have e' : ¬ q.1 = k := fun z => e (h1.trans z)
      have b : valueAt (q :: qs) k = valueAt qs k := by simp [valueAt, List.find?_cons, e']
      rw [valV_neg e, b]; exact ih
theorem KV.any {kvs : List (κ × V)} {vs : List (κ × Value)} (r : KV kvs vs) (k : κ) : (kvs.any fun kv => decide (kv.1 = k)) = vs.any fun kv => decide (kv.1 = k) := by
  unfold KV at r
  induction r with
  | nil => rfl
  | cons h t ih => rw [List.any_cons, List.any_cons, ih, h.1]
theorem KV.repl {kvs : List (κ × V)} {vs : List (κ × Value)} (r : KV kvs vs) (k : κ) {y : V} {u : Value} (ry : RelV y u) :
    KV (kvs.map fun kv => if kv.1 = k then (kv.1, y) else kv) (vs.map fun kv => if kv.1 = k then (kv.1, u) else kv) := by
  unfold KV at r ⊢
  induction r with
  | nil => exact .nil
  | @cons p q ps qs h t ih =>
    rw [List.map_cons, List.map_cons]
    refine .cons ?_ ih
    obtain ⟨h1, h2⟩ := h
    by_cases e : p.1 = k
    · rw [if_pos e, if_pos (h1.symm.trans e)]; exact ⟨h1, ry⟩
    · rw [if_neg e, if_neg (fun z => e (h1.trans z))]; exact ⟨h1, h2⟩
theorem KV.put {kvs : List (κ × V)} {vs : List (κ × Value)} (r : KV kvs vs) (k : κ) {y : V} {u : Value} (ry : RelV y u) : KV (putK kvs k y) (stored vs k u) := by
  unfold putK stored
  rw [r.any k]
  by_cases e : (vs.any fun kv => decide (kv.1 = k)) = true
  · rw [if_pos e, if_pos e]; exact r.repl k ry
  · rw [if_neg e, if_neg e]; exact Paired.snoc r ⟨rfl, ry⟩
theorem KV.drop {kvs : List (κ × V)} {vs : List (κ × Value)} (r : KV kvs vs) (k : κ) : KV (dropK kvs k) (without vs k) := by
  unfold KV at r ⊢
  unfold dropK without
  induction r with
  | nil => exact .nil
  | @cons p q ps qs h t ih =>
    obtain ⟨h1, h2⟩ := h
    rw [List.filter_cons, List.filter_cons]
    by_cases e : p.1 = k
    · have a : ¬ decide (p.1 ≠ k) = true := by simp [e]
      have b : ¬ decide (q.1 ≠ k) = true := by simp [h1.symm.trans e]
      rw [if_neg a, if_neg b]; exact ih
    · have e' : ¬ q.1 = k := fun z => e (h1.trans z)
      have a : decide (p.1 ≠ k) = true := by simp [e]
      have b : decide (q.1 ≠ k) = true := by simp [e']
      rw [if_pos a, if_pos b]; exact .cons ⟨h1, h2⟩ ih
theorem KV.keys {kvs : List (κ × V)} {vs : List (κ × Value)} (r : KV kvs vs) : kvs.map (·.1) = vs.map (·.1) := by
  unfold KV at r
  induction r with
  | nil => rfl
  | cons h t ih => rw [List.map_cons, List.map_cons, ih, h.1]
theorem KV.length {kvs : List (κ × V)} {vs : List (κ × Value)} (r : KV kvs vs) : kvs.length = vs.length := Paired.length r
theorem dropK_le (kvs : List (κ × V)) (k : κ) : (dropK kvs k).length ≤ kvs.length := List.length_filter_le _ _
end


/-! ### a tracked dict, its keys ints and texts or tuples of these -/
theorem kV_is {P : Program} {w : World} {k : Key} {u : Value} (r : RelV (kV k) u) : (mixKind P w).is k u = true := by
  cases k with
  | inl i => obtain ⟨t, e⟩ := (show ∃ t, u = Value.int i t from r); subst e; exact mixKind_int P w i t
  | inr x => obtain ⟨t, e⟩ := (show ∃ t, u = Value.str x t from r); subst e; exact mixKind_str P w x t
theorem kV_inj {a b : Key} (e : kV a = kV b) : a = b := by
  cases a with
  | inl i => cases b with
    | inl j => have e' : V.int i = V.int j := e; injection e' with e'; rw [e']
    | inr y => exact nomatch (show V.int i = V.str y from e)
  | inr x => cases b with
    | inl j => exact nomatch (show V.str x = V.int j from e)
    | inr y => have e' : V.str x = V.str y := e; injection e' with e'; rw [e']
theorem kVs_inj : ∀ {a b : List Key}, a.map kV = b.map kV → a = b
  | [], [], _ => rfl
  | [], _ :: _, e => by simp at e
  | _ :: _, [], e => by simp at e
  | x :: xs, y :: ys, e => by
    rw [List.map_cons, List.map_cons] at e
    injection e with e1 e2
    rw [kV_inj e1, kVs_inj e2]
theorem items_are {P : Program} {w : World} : ∀ {ks : List Key} {us : List Value}, Vals (ks.map kV) us → ItemsAre (mixKind P w) ks us
  | [], _, r => by rw [List.map_nil] at r; cases r; exact .nil
  | k :: ks, _, r => by
    rw [List.map_cons] at r
    cases r with
    | cons h t => exact .cons (kV_is h) (items_are t)

/-- raw entries of a dict with tuple keys -/
abbrev KT (H : Hp) : List (List Key × V) → List (List Key × Addr × Value) → Prop := Paired fun p q => p.1 = q.1 ∧ H q.2.1 = some (.tup (p.1.map kV)) ∧ RelV p.2 q.2.2
theorem KT.val {H : Hp} {kvs : List (List Key × V)} {xs : List (List Key × Addr × Value)} (r : KT H kvs xs) (k : List Key) : RelO (valV kvs k) ((atKey xs k).map (·.2)) := by
  induction r with
  | nil => exact True.intro
  | @cons p q ps qs h t ih =>
    obtain ⟨h1, _, h2⟩ := h
    by_cases e : p.1 = k
    · have e' : q.1 = k := h1.symm.trans e
      have b : atKey (q :: qs) k = some q.2 := by simp [atKey, List.find?_cons, e']
      rw [valV_pos e, b]; exact h2
    · have e' : ¬ q.1 = k := fun z => e (h1.trans z)
      have b : atKey (q :: qs) k = atKey qs k := by simp [atKey, List.find?_cons, e']
      rw [valV_neg e, b]; exact ih
theorem KT.repl {H : Hp} {kvs : List (List Key × V)} {xs : List (List Key × Addr × Value)} (r : KT H kvs xs) (k : List Key) {y : V} {u : Value} (ry : RelV y u) :
    KT H (kvs.map fun kv => if kv.1 = k then (kv.1, y) else kv) (xs.map (putAt k u)) := by
  induction r with
  | nil => exact .nil
  | @cons p q ps qs h t ih =>
    rw [List.map_cons, List.map_cons]
    refine .cons ?_ ih
    obtain ⟨h1, h2, h3⟩ := h
    unfold putAt
    by_cases e : p.1 = k
    · rw [if_pos e, if_pos (h1.symm.trans e)]; exact ⟨h1, h2, ry⟩
    · rw [if_neg e, if_neg (fun z => e (h1.trans z))]; exact ⟨h1, h2, h3⟩
theorem KT.put {H : Hp} {kvs : List (List Key × V)} {xs : List (List Key × Addr × Value)} (r : KT H kvs xs) (k : List Key) {b : Addr} {y : V} {u : Value} (hb : H b = some (.tup (k.map kV))) (ry : RelV y u) :
    KT H (putK kvs k y) (storedH xs k b u) := by
  have e : (kvs.any fun kv => decide (kv.1 = k)) = (atKey xs k).isSome := by
    rw [valV_any, (r.val k).isSome_eq, Option.isSome_map]
  unfold putK storedH
  rw [e]
  by_cases q : (atKey xs k).isSome = true
  · rw [if_pos q, if_pos q]; exact r.repl k ry
  · rw [if_neg q, if_neg q]; exact Paired.snoc r ⟨rfl, hb, ry⟩
theorem KT.keeps {H H' : Hp} {kvs : List (List Key × V)} {xs : List (List Key × Addr × Value)} (r : KT H kvs xs) (ht : ∀ b ys, H b = some (.tup ys) → H' b = some (.tup ys)) : KT H' kvs xs :=
  Paired.mapP r fun _ _ z => ⟨z.1, ht _ _ z.2.1, z.2.2⟩

section
variable {P : Program} {w : World} {H : Hp} {h : Heap} {a : Addr}
theorem rd_of {u : HO} (ok : HOk P w H h) (e : Rd H a u) : ObjOk P w H h a u := e.ok ok
theorem dk_rd {kvs : List (Key × V)} (ok : HOk P w H h) (e : Rd H a (.dK kvs)) : kvs.length ≤ sizeLine ∧ (a == sysModules) = false ∧ ∃ vs, KV kvs vs ∧ h.DictOf (mixKind P w) a vs :=
  show ObjOk P w H h a (.dK kvs) from rd_of ok e
theorem dk_of {kvs : List (Key × V)} (ok : HOk P w H h) (e : H a = some (.dK kvs)) : kvs.length ≤ sizeLine ∧ (a == sysModules) = false ∧ ∃ vs, KV kvs vs ∧ h.DictOf (mixKind P w) a vs := dk_rd ok (.inl e)
/-- a tracked tuple of ints and texts is a key -/
theorem key_of {ks : List Key} (ok : HOk P w H h) (e : H a = some (.tup (ks.map kV))) : (tupleKind (mixKind P w)).is h ks a := by
  obtain ⟨_, its, r, o, h1, h2, n, h3⟩ := (show ObjOk P w H h a (.tup (ks.map kV)) from ok a _ e)
  exact ⟨o, its.toArray, n, h1, h2, h3, by simpa using items_are r⟩
theorem dt_rd {kvs : List (List Key × V)} (ok : HOk P w H h) (e : Rd H a (.dT kvs)) : kvs.length ≤ sizeLine ∧ (a == sysModules) = false ∧
    ∃ xs, KT H kvs xs ∧ h.DictOfH (tupleKind (mixKind P w)) a xs := by
  obtain ⟨z, y, xs, r, o, es, ep, h1, h2, h3, h4, h5⟩ := (show ObjOk P w H h a (.dT kvs) from rd_of ok e)
  refine ⟨z, y, xs, r, o, es, ep, h1, h2, h3, h4, fun x hx => ?_, h5⟩
  have all : ∀ {l : List (List Key × V)} {m : List (List Key × Addr × Value)}, KT H l m → ∀ x ∈ m, (tupleKind (mixKind P w)).is h x.1 x.2.1 := by
    intro l m q
    induction q with
    | nil => intro x hx; exact nomatch hx
    | @cons p q ps qs hq t ih =>
      intro x hx
      rcases List.mem_cons.mp hx with e | hx
      · subst e
        exact key_of ok (by rw [← hq.1]; exact hq.2.1)
      · exact ih x hx
  exact all r x hx
theorem dt_of {kvs : List (List Key × V)} (ok : HOk P w H h) (e : H a = some (.dT kvs)) : kvs.length ≤ sizeLine ∧ (a == sysModules) = false ∧
    ∃ xs, KT H kvs xs ∧ h.DictOfH (tupleKind (mixKind P w)) a xs := dt_rd ok (.inl e)
end

/-- what the dict at a holds at the key y -/
def DGet (H : Hp) (a : Addr) (y : V) (r : Option V) : Prop :=
  (∃ kvs k, Rd H a (.dK kvs) ∧ y = kV k ∧ r = valV kvs k) ∨ ∃ kvs k b, Rd H a (.dT kvs) ∧ y = .ref b ∧ H b = some (.tup (k.map kV)) ∧ r = valV kvs k
/-- the heap behind a[y] = v -/
def DPut (H : Hp) (a : Addr) (y v : V) (H' : Hp) : Prop :=
  (∃ kvs k, H a = some (.dK kvs) ∧ y = kV k ∧ kvs.length < sizeLine ∧ H' = upd H a (.dK (putK kvs k v))) ∨
  ∃ kvs k b, H a = some (.dT kvs) ∧ y = .ref b ∧ H b = some (.tup (k.map kV)) ∧ kvs.length < sizeLine ∧ H' = upd H a (.dT (putK kvs k v))
theorem DGet.k {H : Hp} {a : Addr} {kvs : List (Key × V)} {k : Key} (e : H a = some (.dK kvs)) : DGet H a (kV k) (valV kvs k) := .inl ⟨kvs, k, .inl e, rfl, rfl⟩
theorem DGet.t {H : Hp} {a b : Addr} {kvs : List (List Key × V)} {k : List Key} (e : H a = some (.dT kvs)) (eb : H b = some (.tup (k.map kV))) : DGet H a (.ref b) (valV kvs k) := .inr ⟨kvs, k, b, .inl e, rfl, eb, rfl⟩
theorem DPut.k {H : Hp} {a : Addr} {kvs : List (Key × V)} {k : Key} {v : V} (e : H a = some (.dK kvs)) (hl : kvs.length < sizeLine) : DPut H a (kV k) v (upd H a (.dK (putK kvs k v))) := .inl ⟨kvs, k, e, rfl, hl, rfl⟩
theorem DPut.t {H : Hp} {a b : Addr} {kvs : List (List Key × V)} {k : List Key} {v : V} (e : H a = some (.dT kvs)) (eb : H b = some (.tup (k.map kV))) (hl : kvs.length < sizeLine) :
    DPut H a (.ref b) v (upd H a (.dT (putK kvs k v))) := .inr ⟨kvs, k, b, e, rfl, eb, hl, rfl⟩


section
variable {X : Cx} {pins : List (Addr × Obj)} {σ : St} {H : Hp} {s : Shared} {a : Addr} {y v : V} {u r : Value} {o : Option V} {A : Around} {E : Value → Shared → Prop}

theorem Inv.big (I : Inv X pins σ H s) : sysModules < s.heap.objs.size := by
  have h : mainGlobals < s.heap.objs.size := (I.mod.glob.keeps I.bk).lt
  exact Nat.lt_trans (by decide) h

/-- d[y], there -/
theorem d_getItem {Q : Value → Shared → Prop} (hu : A.units + 1 < cLine) (I : Inv X pins σ H s) (g : DGet H a y (some v)) (ry : RelV y u) (h : ∀ w' s', Inv X pins σ H s' → RelV v w' → Q w' s') :
    wpAny (model X.prog X.w) A (getItem (.ref a) u) Q E s := by
  rcases g with ⟨kvs, k, e, ey, l⟩ | ⟨kvs, k, b, e, ey, eb, l⟩
  · subst ey
    obtain ⟨z, hd, vs, rel, dd⟩ := dk_rd I.hok e
    obtain ⟨w', hw, rw'⟩ := RelO.some_of (v := v) (o := valueAt vs k) (by rw [l]; exact rel.val k)
    exact wpAny_getItem_of (kV_is ry) dd.mapOf hw (h w' _ (I.tok _) rw')
  · subst ey
    cases (show u = Value.ref b from ry)
    obtain ⟨z, hd, xs, rel, dd⟩ := dt_rd I.hok e
    obtain ⟨w', hw, rw'⟩ := RelO.some_of (v := v) (o := (atKey xs k).map (·.2)) (by rw [l]; exact rel.val k)
    obtain ⟨p, hp, hp2⟩ := Option.map_eq_some_iff.mp hw
    refine wpAny_getItem_heap (tupleKind_room_in1 hu) (key_of I.hok eb) dd hp ?_
    rw [hp2]
    exact h w' _ (I.tok _) rw'
/-- y in d -/
theorem d_in {Q : Value → Shared → Prop} (hu : A.units + 1 < cLine) (I : Inv X pins σ H s) (g : DGet H a y o) (ry : RelV y u) (h : ∀ s', Inv X pins σ H s' → Q (.bool o.isSome) s') :
    wpAny (model X.prog X.w) A (compareOp .In u (.ref a)) Q E s := by
  rcases g with ⟨kvs, k, e, ey, l⟩ | ⟨kvs, k, b, e, ey, eb, l⟩
  · subst ey
    obtain ⟨z, hd, vs, rel, dd⟩ := dk_rd I.hok e
    refine wpAny_in_of (kV_is ry) hd dd.mapOf ?_
    rw [← (rel.val k).isSome_eq, ← l]
    exact h _ (I.tok _)
  · subst ey
    cases (show u = Value.ref b from ry)
    obtain ⟨z, hd, xs, rel, dd⟩ := dt_rd I.hok e
    refine wpAny_in_heap (tupleKind_room_in1 hu) (key_of I.hok eb) hd dd ?_
    have q := (rel.val k).isSome_eq
    rw [Option.isSome_map] at q
    rw [← q, ← l]
    exact h _ (I.tok _)
theorem d_notIn {Q : Value → Shared → Prop} (hu : A.units + 1 < cLine) (I : Inv X pins σ H s) (g : DGet H a y o) (ry : RelV y u) (h : ∀ s', Inv X pins σ H s' → Q (.bool (!o.isSome)) s') :
    wpAny (model X.prog X.w) A (compareOp .NotIn u (.ref a)) Q E s := by
  rcases g with ⟨kvs, k, e, ey, l⟩ | ⟨kvs, k, b, e, ey, eb, l⟩
  · subst ey
    obtain ⟨z, hd, vs, rel, dd⟩ := dk_rd I.hok e
    refine wpAny_notIn_of (kV_is ry) hd dd.mapOf ?_
    rw [← (rel.val k).isSome_eq, ← l]
    exact h _ (I.tok _)
  · subst ey
    cases (show u = Value.ref b from ry)
    obtain ⟨z, hd, xs, rel, dd⟩ := dt_rd I.hok e
    refine wpAny_notIn_heap (tupleKind_room_in1 hu) (key_of I.hok eb) hd dd ?_
    have q := (rel.val k).isSome_eq
    rw [Option.isSome_map] at q
    rw [← q, ← l]
    exact h _ (I.tok _)
/-- a dict's object is replaced -/
theorem d_write {h' : Heap} {t' : Nat} {ob : HO} (I : Inv X pins σ H s) (mu : Mut (H a)) (hs : Heap.SameBut a s.heap h') (he : ∃ q, h'.get? a = some q) (new : ObjOk X.prog X.w (upd H a ob) h' a ob) :
    Inv X pins σ (upd H a ob) { s with heap := h', toks := t' } :=
  I.write (x := a) (e := a) mu (.inl rfl) (fun b q hb z => (hs.2 b hb).trans z) he new
theorem dk_new {P : Program} {w : World} {H' : Hp} {h' : Heap} {kvs : List (Key × V)} {vs : List (Key × Value)} (z : kvs.length ≤ sizeLine) (hd : (a == sysModules) = false) (rel : KV kvs vs) (dd : h'.DictOf (mixKind P w) a vs) :
    ObjOk P w H' h' a (.dK kvs) := ⟨z, hd, vs, rel, dd⟩
/-- d[y] = v -/
theorem d_setItem {H' : Hp} {Q : Unit → Shared → Prop} (hu : A.units + 1 < cLine) (I : Inv X pins σ H s) (g : DPut H a y v H') (ry : RelV y u) (rv : RelV v r) (h : ∀ s', Inv X pins σ H' s' → Q () s') :
    wpAny (model X.prog X.w) A (setItem (.ref a) u r) Q E s := by
  rcases g with ⟨kvs, k, e, ey, l, eH⟩ | ⟨kvs, k, b, e, ey, eb, l, eH⟩
  · subst ey eH
    obtain ⟨z, hd, vs, rel, dd⟩ := dk_of I.hok e
    have hz : vs.length ≤ sizeLine := by rw [← rel.length]; exact z
    have hl : (putK kvs k v).length ≤ sizeLine := by have := length_putK kvs k v; omega
    refine wpAny_setItem_pairs (hsz := hz) (kV_is ry) dd fun h' dd' hs => h _ ?_
    have he : ∃ q, h'.get? a = some q := let ⟨q, _, _, hq, _⟩ := dd'; ⟨q, hq⟩
    exact d_write I (by rw [e]; exact True.intro) hs he (dk_new hl hd (rel.put k rv) dd')
  · subst ey eH
    cases (show u = Value.ref b from ry)
    obtain ⟨z, hd, xs, rel, dd⟩ := dt_of I.hok e
    have hz : xs.length ≤ sizeLine := by rw [← Paired.length rel]; exact z
    have hl : (putK kvs k v).length ≤ sizeLine := by have := length_putK kvs k v; omega
    refine wpAny_setItem_heap (hsz := hz) (tupleKind_room_in1 hu) (key_of I.hok eb) dd fun h' dd' hs => h _ ?_
    obtain ⟨q, es, ep, hq, h2, h3, h4, _, h5⟩ := dd'
    refine d_write I (by rw [e]; exact True.intro) hs ⟨q, hq⟩ ⟨hl, hd, _, (rel.put k eb rv).keeps fun c ys ec => ?_, q, es, ep, hq, h2, h3, h4, h5⟩
    rw [upd_ne (ne_of ec e (fun z => nomatch z))]
    exact ec
end

section
variable {X : Cx} {pins : List (Addr × Obj)} {σ : St} {H : Hp} {s : Shared} {a : Addr} {kvs : List (Key × V)} {k : Key} {u : Value} {A : Around} {E : Value → Shared → Prop}
/-- del d[k] -/
theorem d_delItem {Q : Unit → Shared → Prop} (I : Inv X pins σ H s) (e : H a = some (.dK kvs)) (ry : RelV (kV k) u) (l : (valV kvs k).isSome = true) (h : ∀ s', Inv X pins σ (upd H a (.dK (dropK kvs k))) s' → Q () s') :
    wpAny (model X.prog X.w) A (delItem (.ref a) u) Q E s := by
  obtain ⟨z, hd, vs, rel, dd⟩ := dk_of I.hok e
  refine wpAny_delItem_slot dd.typeIs (by decide) PySem.F.slot_dict_delitem
    (call_meetsIn PySem.F.slot_dict_delitem dd.typeIs PySem.F.entry_dict_delitem (PySem.F.args_dict_delitem_2 _ _) (meets_dict_delitem_pairs (mixKind X.prog X.w) a (kV_is ry)) ⟨vs, dd, by rw [← rel.length]; exact z, by rw [← (rel.val k).isSome_eq]; exact l, fun h' dd' hs => h _ ?_⟩)
  have he : ∃ q, h'.get? a = some q := let ⟨q, _, _, hq, _⟩ := dd'; ⟨q, hq⟩
  exact d_write I (by rw [e]; exact True.intro) hs he (dk_new (Nat.le_trans (dropK_le kvs k) z) hd (rel.drop k) dd')
/-- d.pop(k[, x]), there -/
theorem d_pop {v : V} {more : List Value} {Q : Value → Shared → Prop} (I : Inv X pins σ H s) (e : H a = some (.dK kvs)) (ry : RelV (kV k) u) (l : valV kvs k = some v) (hm : more = [] ∨ ∃ x, more = [x])
    (h : ∀ w' s', Inv X pins σ (upd H a (.dK (dropK kvs k))) s' → RelV v w' → Q w' s') : wpAny (model X.prog X.w) A (call (.builtin "dict.pop") (.ref a :: u :: more)) Q E s := by
  obtain ⟨z, hd, vs, rel, dd⟩ := dk_of I.hok e
  obtain ⟨w', hw, rw'⟩ := RelO.some_of (v := v) (o := valueAt vs k) (by rw [← l]; exact rel.val k)
  have hp : (keyPart u).isSome = true := by
    cases k with
    | inl i => obtain ⟨t, q⟩ := (show ∃ t, u = Value.int i t from ry); subst q; rfl
    | inr x => obtain ⟨t, q⟩ := (show ∃ t, u = Value.str x t from ry); subst q; rfl
  have ha : argsOk "dict.pop" ⟨.ref a :: u :: more, []⟩ := by
    rcases hm with q | ⟨x, q⟩
    · subst q; exact PySem.F.args_dict_pop_2 _ _
    · subst q; exact PySem.F.args_dict_pop_3 _ _ _
  refine call_meetsIn PySem.F.slot_dict_pop dd.typeIs PySem.F.entry_dict_pop ha (meets_dict_pop_there (mixKind X.prog X.w) a (kV_is ry) more hm hp)
    ⟨vs, w', dd, by rw [← rel.length]; exact z, hw, fun h' dd' hs => h w' _ ?_ rw'⟩
  have he : ∃ q, h'.get? a = some q := let ⟨q, _, _, hq, _⟩ := dd'; ⟨q, hq⟩
  exact d_write I (by rw [e]; exact True.intro) hs he (dk_new (Nat.le_trans (dropK_le kvs k) z) hd (rel.drop k) dd')
/-- d.pop(k, x), not there -/
theorem d_popD {r : Value} {Q : Value → Shared → Prop} (I : Inv X pins σ H s) (e : H a = some (.dK kvs)) (ry : RelV (kV k) u) (l : valV kvs k = none) (h : ∀ s', Inv X pins σ H s' → Q r s') :
    wpAny (model X.prog X.w) A (call (.builtin "dict.pop") [.ref a, u, r]) Q E s := by
  obtain ⟨z, hd, vs, rel, dd⟩ := dk_of I.hok e
  have hn : valueAt vs k = none := RelO.none_of (by rw [← l]; exact rel.val k)
  have hp : (keyPart u).isSome = true := by
    cases k with
    | inl i => obtain ⟨t, q⟩ := (show ∃ t, u = Value.int i t from ry); subst q; rfl
    | inr x => obtain ⟨t, q⟩ := (show ∃ t, u = Value.str x t from ry); subst q; rfl
  exact call_meetsIn PySem.F.slot_dict_pop dd.typeIs PySem.F.entry_dict_pop (PySem.F.args_dict_pop_3 _ _ _) (meets_dict_pop_default (mixKind X.prog X.w) a (kV_is ry) hd hp r) ⟨vs, dd, hn, h _ (I.tok _)⟩
/-- d.clear() -/
theorem d_clear {Q : Value → Shared → Prop} (I : Inv X pins σ H s) (e : H a = some (.dK kvs)) (h : ∀ s', Inv X pins σ (upd H a (.dK [])) s' → Q .none s') : wpAny (model X.prog X.w) A (call (.builtin "dict.clear") [.ref a]) Q E s := by
  obtain ⟨z, hd, vs, rel, dd⟩ := dk_of I.hok e
  refine call_meetsIn PySem.F.slot_dict_clear dd.typeIs PySem.F.entry_dict_clear (PySem.F.args_dict_clear_1 _) (meets_dict_clear (mixKind X.prog X.w) a) ⟨vs, dd, by rw [← rel.length]; exact z, fun h' dd' hs => h _ ?_⟩
  have he : ∃ q, h'.get? a = some q := let ⟨q, _, _, hq, _⟩ := dd'; ⟨q, hq⟩
  exact d_write (t' := s.toks) I (by rw [e]; exact True.intro) hs he (dk_new (Nat.zero_le _) hd .nil dd')
/-- len(d) -/
theorem d_len {Q : Value → Shared → Prop} (I : Inv X pins σ H s) (e : Rd H a (.dK kvs)) (h : ∀ t s', Inv X pins σ H s' → Q (.int kvs.length t) s') : wpAny (model X.prog X.w) A (call (.builtin "len") [.ref a]) Q E s := by
  obtain ⟨z, hd, vs, rel, dd⟩ := dk_rd I.hok e
  refine call_len_dict hd dd (by rw [← rel.length]; rw [sizeLine_eq] at z; omega) ?_
  rw [← rel.length]
  exact h _ _ (I.tok _)
/-- if d -/
theorem d_truth {Q : Bool → Shared → Prop} (I : Inv X pins σ H s) (e : Rd H a (.dK kvs)) (h : ∀ s', Inv X pins σ H s' → Q (!kvs.isEmpty) s') : wpAny (model X.prog X.w) A (truthy (.ref a)) Q E s := by
  obtain ⟨z, hd, vs, rel, dd⟩ := dk_rd I.hok e
  refine wpAny_truthy_dict hd dd (by rw [← rel.length]; rw [sizeLine_eq] at z; omega) ?_
  have q : kvs.isEmpty = vs.isEmpty := by cases rel <;> rfl
  rw [← q]
  exact h _ (I.tok _)
end


/-! ### readings and rules -/
/-- the element of a subscription, not a slice -/
def NoSl (i : Expr) : Prop := ∀ ov iv, subscripted i false ov iv = operate [ov, iv] (getItem ov iv)
theorem subD_of {prog : Program} {w : World} {A : Around} {E : Value → Shared → Prop} {s : Shared} {env : Env} {value slice : Expr} {pos : Pos} {T id : String} {Q : Value → Shared → Prop}
    (hl : typeLookup (.type T) "__getitem__" = pure (some (.builtin id))) (hs : NoSl slice)
    (h : wpAny (model prog w) A (eval value env) (fun o s₁ => wpAny (model prog w) A (eval slice env) (fun i s₂ => s₂.TypeIs o T ∧ wpAny (model prog w) A (getItem o i) Q E s₂) E s₁) E s) :
    wpAny (model prog w) A (eval (.Subscript value slice pos) env) Q E s := by
  refine Subscript_ (wpAny_mono h (fun o s₁ h₁ => wpAny_mono h₁ (fun i s₂ h₂ => ?_) fun _ _ x => x) fun _ _ x => x)
  obtain ⟨hT, h₂⟩ := h₂
  unfold subscriptTail
  refine wpAny_bind ?_
  rw [getitemInPython_of_ne hT.not_modules]
  refine wpAny_bind (wpAny_specialOf hT hl ?_)
  have fin : wpAny (model prog w) A (subscripted slice false o i) (fun r s₃ => wpAny (model prog w) A (letTemporaryGo value o r >>= fun _ => pure r) Q E s₃) E s₂ := by
    rw [hs o i]
    exact wpAny_operating (wpAny_mono h₂ (fun r s₃ h₃ => wpAny_bind (wpAny_letTemporaryGo (wpAny_pure h₃))) fun _ _ x => x)
  first
    | exact wpAny_pure (wpAny_bind fin)
    | exact wpAny_bind (wpAny_pure (wpAny_bind fin))
    | exact wpAny_bind fin

theorem dict_typeIs {X : Cx} {pins : List (Addr × Obj)} {σ : St} {H : Hp} {s : Shared} {a : Addr} {y : V} {o : Option V} (I : Inv X pins σ H s) (g : DGet H a y o) : s.TypeIs (.ref a) "dict" := by
  rcases g with ⟨kvs, k, e, _, _⟩ | ⟨kvs, k, b, e, _, _, _⟩
  · obtain ⟨_, _, vs, _, dd⟩ := dk_rd I.hok e
    exact dd.typeIs
  · obtain ⟨_, _, xs, _, dd⟩ := dt_rd I.hok e
    exact dd.typeIs
theorem dict_noDict {X : Cx} {pins : List (Addr × Obj)} {σ : St} {H : Hp} {s : Shared} {a : Addr} {y : V} {o : Option V} (I : Inv X pins σ H s) (g : DGet H a y o) :
    ∀ b, Value.ref a = .ref b → ∃ ob, s.heap.get? b = some ob ∧ ob.dict = none := fun b q => by
  cases q
  rcases g with ⟨kvs, k, e, _, _⟩ | ⟨kvs, k, b, e, _, _, _⟩
  · obtain ⟨_, _, vs, _, ob, _, _, h1, h2, _⟩ := dk_rd I.hok e
    exact ⟨ob, h1, h2.2.1⟩
  · obtain ⟨_, _, xs, _, ob, _, _, h1, h2, _⟩ := dt_rd I.hok e
    exact ⟨ob, h1, h2.2.1⟩

/-- d[y] -/
def tDGet (td ty : TE) : TE := fun σ H Q => td σ H fun x H1 => ty σ H1 fun y H2 => ∃ a v, x = .ref a ∧ DGet H2 a y (some v) ∧ Q v H2
/-- y in d, y not in d -/
def tDIn (ty td : TE) : TE := fun σ H Q => ty σ H fun y H1 => td σ H1 fun x H2 => ∃ a o, x = .ref a ∧ DGet H2 a y o ∧ Q (.bl o.isSome) H2
def tDNotIn (ty td : TE) : TE := fun σ H Q => ty σ H fun y H1 => td σ H1 fun x H2 => ∃ a o, x = .ref a ∧ DGet H2 a y o ∧ Q (.bl (!o.isSome)) H2
/-- d[y] = v -/
def sDPut (td ty tv : TE) : TS := fun D σ H => tv σ H fun v H1 => td σ H1 fun x H2 => ty σ H2 fun y H3 => ∃ a H4, x = .ref a ∧ DPut H3 a y v H4 ∧ D.nx σ H4
/-- d[y] op= v -/
def sDAug (td ty tv : TE) (rd : V → V → Hp → VK → Prop) : TS := fun D σ H => td σ H fun x H1 => ty σ H1 fun y H2 => ∃ a v, x = .ref a ∧ DGet H2 a y (some v) ∧
  tv σ H2 fun y2 H3 => rd v y2 H3 fun z H4 => ∃ H5, DPut H4 a y z H5 ∧ D.nx σ H5
/-- del d[y] -/
def sDDel (td ty : TE) : TS := fun D σ H => td σ H fun x H1 => ty σ H1 fun y H2 => ∃ a kvs k, x = .ref a ∧ H2 a = some (.dK kvs) ∧ y = kV k ∧ (valV kvs k).isSome = true ∧ D.nx σ (upd H2 a (.dK (dropK kvs k)))

section
variable {X : Cx} {o i e value : Expr} {pos pos' tpos : Pos} {td ty tv : TE}
theorem pe_dget (hu : X.A.units + 1 < cLine) (ho : PE X o td) (hi : PE X i ty) (hs : NoSl i) : PE X (.Subscript o i pos) (tDGet td ty) := by
  intro pins s σ H Q I h
  refine subD_of PySem.F.slot_dict_getitem.lookup hs (thn (ho pins s σ H _ I h) fun u s1 ⟨x, H1, I1, rx, q1⟩ => thn (hi pins s1 σ H1 _ I1 q1) fun iv s2 ⟨y, H2, I2, ry, a, v, ex, g, q2⟩ => ?_)
  subst ex
  obtain rfl : u = Value.ref a := rx
  exact ⟨dict_typeIs I2 g, d_getItem hu I2 g ry fun w' s3 I3 rw' => ⟨v, H2, I3, rw', q2⟩⟩
theorem pc_din (hu : X.A.units + 1 < cLine) (hi : PE X i ty) (ho : PE X o td) : PC X .In i o (tDIn ty td) := by
  intro pins s σ H Q I h
  refine thn (hi pins s σ H _ I h) fun iv s1 ⟨y, H1, I1, ry, q1⟩ => thn (ho pins s1 σ H1 _ I1 q1) fun u s2 ⟨x, H2, I2, rx, a, ov, ex, g, q2⟩ => ?_
  subst ex
  obtain rfl : u = Value.ref a := rx
  exact d_in hu I2 g ry fun s3 I3 => ⟨.bl ov.isSome, H2, I3, rfl, q2⟩
theorem pc_dnotin (hu : X.A.units + 1 < cLine) (hi : PE X i ty) (ho : PE X o td) : PC X .NotIn i o (tDNotIn ty td) := by
  intro pins s σ H Q I h
  refine thn (hi pins s σ H _ I h) fun iv s1 ⟨y, H1, I1, ry, q1⟩ => thn (ho pins s1 σ H1 _ I1 q1) fun u s2 ⟨x, H2, I2, rx, a, ov, ex, g, q2⟩ => ?_
  subst ex
  obtain rfl : u = Value.ref a := rx
  exact d_notIn hu I2 g ry fun s3 I3 => ⟨.bl (!ov.isSome), H2, I3, rfl, q2⟩
theorem ps_dput (hu : X.A.units + 1 < cLine) (ho : PE X o td) (hi : PE X i ty) (hv : PE X value tv) (hs : swapsWith value (some (.Subscript o i pos')) pos.line X.env = pure false) :
    PS X (.Assign [.Subscript o i pos'] value pos) (sDPut td ty tv) := by
  intro pins s σ H D I h
  refine wpAny_Assign_Subscript (thn (hv pins s σ H _ I h) fun r s1 ⟨v, H1, I1, rv, q1⟩ => thn (ho pins s1 σ H1 _ I1 q1) fun u s2 ⟨x, H2, I2, rx, q2⟩ => thn (hi pins s2 σ H2 _ I2 q2) fun iv s3 ⟨y, H3, I3, ry, a, H4, ex, g, q3⟩ => ?_) hs
  subst ex
  obtain rfl : u = Value.ref a := rx
  exact d_setItem hu I3 g ry rv fun s4 I4 => ⟨σ, H4, I4, q3⟩
theorem ps_daug {op : Operator} {rd : V → V → Hp → VK → Prop} (hu : X.A.units + 1 < cLine) (ho : PE X o td) (hi : PE X i ty) (hv : PE X value tv) (hop : InOp X op rd)
    (ha : ∀ ov iv new, augStore i ov iv new = (do holding [new, ov, iv] (setItem ov iv new); release [new, ov, iv] []; pure .next)) : PS X (.AugAssign (.Subscript o i tpos) op value pos) (sDAug td ty tv rd) := by
  intro pins s σ H D I h
  refine wpAny_AugAssign_SubscriptAny (thn (ho pins s σ H _ I h) fun u s1 ⟨x, H1, I1, rx, q1⟩ => thn (hi pins s1 σ H1 _ I1 q1) fun iv s2 ⟨y, H2, I2, ry, a, v, ex, g, q2⟩ => ?_) ha
  subst ex
  obtain rfl : u = Value.ref a := rx
  refine d_getItem hu I2 g ry fun w' s3 I3 rw' => thn (hv pins s3 σ H2 _ I3 q2) fun w2 s4 ⟨y2, H3, I4, ry2, q3⟩ => thn (hop pins s4 σ H3 v y2 w' w2 _ I4 rw' ry2 q3) fun w3 s5 ⟨z, H4, I5, rz, H5, g5, q4⟩ => ?_
  exact d_setItem hu I5 g5 ry rz fun s6 I6 => ⟨σ, H5, I6, q4⟩
theorem ps_ddel (ho : PE X o td) (hi : PE X i ty) : PS X (.Delete [.Subscript o i tpos] pos) (sDDel td ty) := by
  intro pins s σ H D I h
  refine wpAny_Delete (wpAny_deleteEach_cons (wpAny_delete_Subscript (thn (ho pins s σ H _ I h) fun u s1 ⟨x, H1, I1, rx, q1⟩ => thn (hi pins s1 σ H1 _ I1 q1) fun iv s2 ⟨y, H2, I2, ry, a, kvs, k, ex, e, ey, l, q2⟩ => ?_)))
  subst ex ey
  obtain rfl : u = Value.ref a := rx
  exact d_delItem I2 e ry l fun s3 I3 => wpAny_deleteEach_nil ⟨σ, _, I3, q2⟩
end


/-! ### displays -/
theorem dk_empty {P : Program} {w : World} {H : Hp} (h : Heap) (hb : sysModules < h.objs.size) : ObjOk P w H (h.push { cls := .type "dict", data := .dict #[] }) h.objs.size (.dK []) :=
  ⟨Nat.zero_le _, beq_eq_false_iff_ne.mpr (Ne.symm (Nat.ne_of_lt hb)), [], .nil, Heap.DictOf.new h⟩
theorem dt_empty {P : Program} {w : World} {H : Hp} (h : Heap) (hb : sysModules < h.objs.size) : ObjOk P w H (h.push { cls := .type "dict", data := .dict #[] }) h.objs.size (.dT []) :=
  ⟨Nat.zero_le _, beq_eq_false_iff_ne.mpr (Ne.symm (Nat.ne_of_lt hb)), [], .nil, _, #[], 0, Heap.get?_push_size _ rfl, ⟨rfl, rfl, rfl⟩, rfl, rfl, List.nodup_nil⟩
/-- {}, to be a dict of the kind that is wanted -/
def tDNewK : TE := fun _ H Q => ∀ p, H p = none → Q (.ref p) (upd H p (.dK []))
def tDNewT : TE := fun _ H Q => ∀ p, H p = none → Q (.ref p) (upd H p (.dT []))
section
variable {X : Cx} {pos : Pos}
theorem pe_dnewK : PE X (.Dict [] [] pos) tDNewK := fun pins s σ H Q I h =>
  wpAny_Dict_empty ⟨.ref s.heap.objs.size, _, I.laid (a := s.heap.objs.size) (o := .dK []) (t' := s.toks) (fun _ _ q => Heap.get?_push_of_some _ q) (Nat.le_refl _) (dk_empty s.heap I.big), rfl, h _ (I.hok.fresh (Nat.le_refl _))⟩
theorem pe_dnewT : PE X (.Dict [] [] pos) tDNewT := fun pins s σ H Q I h =>
  wpAny_Dict_empty ⟨.ref s.heap.objs.size, _, I.laid (a := s.heap.objs.size) (o := .dT []) (t' := s.toks) (fun _ _ q => Heap.get?_push_of_some _ q) (Nat.le_refl _) (dt_empty s.heap I.big), rfl, h _ (I.hok.fresh (Nat.le_refl _))⟩
end

/-- the pairs of a display, from the left -/
def tPairs : List (TE × TE) → St → Hp → (List (V × V) → Hp → Prop) → Prop
  | [], _, H, Q => Q [] H
  | (tk, tv) :: r, σ, H, Q => tk σ H fun x H1 => tv σ H1 fun y H2 => tPairs r σ H2 fun ps H3 => Q ((x, y) :: ps) H3
abbrev VV : List (V × V) → List (Value × Value) → Prop := Paired fun p q => RelV p.1 q.1 ∧ RelV p.2 q.2
def PPs (X : Cx) (pos : Pos) (keys : List (Option Expr)) (values : List Expr) (trs : List (TE × TE)) : Prop :=
  ∀ (pins : List (Addr × Obj)) (s : Shared) (σ : St) (H : Hp) (Q : List (V × V) → Hp → Prop), Inv X pins σ H s → tPairs trs σ H Q →
    wpAny (model X.prog X.w) X.A (evalPairs (pairTrees keys values X.env pos)) (fun vs s' => ∃ ps H', Inv X pins σ H' s' ∧ VV ps vs ∧ Q ps H') X.xe s
theorem pps_nil {X : Cx} {pos : Pos} : PPs X pos [] [] [] := fun pins s σ H Q I h => pairTrees_nil_walk ⟨[], H, I, .nil, h⟩
theorem pps_cons {X : Cx} {pos : Pos} {k v : Expr} {ks : List (Option Expr)} {vs : List Expr} {tk tv : TE} {trs : List (TE × TE)} (hk : PE X k tk) (hv : PE X v tv) (hr : PPs X pos ks vs trs) :
    PPs X pos (some k :: ks) (v :: vs) ((tk, tv) :: trs) := fun pins s σ H Q I h =>
  pairTrees_cons_walk (thn (hk pins s σ H _ I h) fun u s1 ⟨x, H1, I1, rx, q1⟩ => thn (hv pins s1 σ H1 _ I1 q1) fun w2 s2 ⟨y, H2, I2, ry, q2⟩ =>
    thn (hr pins s2 σ H2 _ I2 q2) fun ws s3 ⟨ps, H3, I3, rel, q3⟩ => ⟨(x, y) :: ps, H3, I3, .cons ⟨rx, ry⟩ rel, q3⟩)

def mergeK (kvs more : List (Key × V)) : List (Key × V) := more.foldl (fun acc kv => putK acc kv.1 kv.2) kvs
theorem KV.merge : ∀ {more : List (Key × V)} {rs : List (Key × Value)} {kvs : List (Key × V)} {vs : List (Key × Value)}, KV more rs → KV kvs vs → KV (mergeK kvs more) (merged vs rs) := by
  intro more rs kvs vs r
  unfold KV at r
  induction r generalizing kvs vs with
  | nil => intro q; exact q
  | @cons p q ps qs h t ih =>
    intro r0
    have e : KV (putK kvs p.1 p.2) (stored vs q.1 q.2) := by
      have := r0.put p.1 h.2
      rw [← h.1]; exact this
    exact ih e
theorem length_mergeK : ∀ (more kvs : List (Key × V)), (mergeK kvs more).length ≤ kvs.length + more.length
  | [], kvs => by show kvs.length ≤ kvs.length + 0; omega
  | p :: r, kvs => by
    have h1 := length_mergeK r (putK kvs p.1 p.2)
    have h2 := length_putK kvs p.1 p.2
    show (mergeK (putK kvs p.1 p.2) r).length ≤ _
    rw [List.length_cons]; omega
theorem carries_of {P : Program} {w : World} : ∀ {kvs : List (Key × V)} {ws : List (Value × Value)}, VV (kvs.map fun kv => (kV kv.1, kv.2)) ws → ∃ rs, Carries (mixKind P w) ws rs ∧ KV kvs rs
  | [], _, r => by rw [List.map_nil] at r; cases r; exact ⟨[], True.intro, .nil⟩
  | p :: kvs, _, r => by
    rw [List.map_cons] at r
    cases r with
    | @cons a b as bs h t =>
      obtain ⟨rs, c, q⟩ := carries_of (P := P) (w := w) t
      obtain ⟨b1, b2⟩ := b
      exact ⟨(p.1, b2) :: rs, ⟨kV_is h.1, rfl, c⟩, .cons ⟨rfl, h.2⟩ q⟩
/-- {k: v, ..} with keys ints and texts; the new dict stands empty while the pairs are made -/
def tDisp (trs : List (TE × TE)) : TE := fun σ H Q => ∀ p, H p = none → tPairs trs σ (upd H p (.dK [])) fun ps H2 => H2 p = some (.dK []) ∧ ∃ kvs : List (Key × V), ps = kvs.map (fun kv => (kV kv.1, kv.2)) ∧ kvs.length ≤ 15 ∧ Q (.ref p) (upd H2 p (.dK (mergeK [] kvs)))
theorem pe_disp {X : Cx} {pos : Pos} {keys : List (Option Expr)} {values : List Expr} {trs : List (TE × TE)} (h : PPs X pos keys values trs) (hall : keys.all (·.isSome) = true) (hl : keys.length = values.length) (h0 : keys ≠ [])
    (h15 : keys.length ≤ 15) : PE X (.Dict keys values pos) (tDisp trs) := by
  intro pins s σ H Q I q
  have hn := I.hok.fresh (Nat.le_refl s.heap.objs.size)
  have I1 := I.laid (a := s.heap.objs.size) (o := .dK []) (h' := s.heap.push { cls := .type "dict", data := .dict #[] }) (t' := s.toks) (fun _ _ q => Heap.get?_push_of_some _ q) (Nat.le_refl _) (dk_empty s.heap I.big)
  refine wpAny_Dict_walk (knd := mixKind X.prog X.w) hall hl h0 h15 (thn (h pins _ σ _ _ I1 (q _ hn)) fun ws s2 ⟨ps, H2, I2, rel, e, kvs, ep, lk, q2⟩ => ?_)
  subst ep
  obtain ⟨rs, c, rk⟩ := carries_of (P := X.prog) (w := X.w) rel
  obtain ⟨z, hd, vs0, r0, dd⟩ := dk_of I2.hok e
  cases r0
  refine ⟨rs, c, dd, fun h' dd' hs => ⟨.ref s.heap.objs.size, _, ?_, rfl, q2⟩⟩
  have hz : (mergeK [] kvs).length ≤ sizeLine := by
    have h1 := length_mergeK kvs []
    rw [List.length_nil] at h1
    rw [sizeLine_eq]; omega
  have he : ∃ q, h'.get? s.heap.objs.size = some q := let ⟨q, _, _, hq, _⟩ := dd'; ⟨q, hq⟩
  exact d_write I2 (by rw [e]; exact True.intro) hs he (dk_new hz hd (rk.merge .nil) dd')


/-! ### methods -/
/-- a method call o.m(e) of a built-in, with one argument: what must be seen of the text -/
structure M1 (X : Cx) (o : Expr) (m : Str) (apos : Pos) (e : Expr) (cpos : Pos) : Prop where
  base : attributeBase o m X.env (eval o X.env) = eval o X.env
  few : ((backTo cpos (starEach [e] X.env)).all (fun x => !x.1) && (backToKw cpos (keywordEach [] X.env)).all (fun x => x.1.isSome)
    && decide (([e] : List Expr).length + ([] : List Keyword).length + (if ([] : List Keyword).isEmpty then 0 else 1) < 30)) = true
  line : (apos.endLine == cpos.line) = true
  trees : backTo cpos (starEach [e] X.env) = [(false, eval e X.env)]
structure M2 (X : Cx) (o : Expr) (m : Str) (apos : Pos) (e f : Expr) (cpos : Pos) : Prop where
  base : attributeBase o m X.env (eval o X.env) = eval o X.env
  few : ((backTo cpos (starEach [e, f] X.env)).all (fun x => !x.1) && (backToKw cpos (keywordEach [] X.env)).all (fun x => x.1.isSome)
    && decide (([e, f] : List Expr).length + ([] : List Keyword).length + (if ([] : List Keyword).isEmpty then 0 else 1) < 30)) = true
  line : (apos.endLine == cpos.line) = true
  trees : backTo cpos (starEach [e, f] X.env) = [(false, eval e X.env), (false, eval f X.env)]

/-- a is a dict, whatever its keys -/
def IsD (H : Hp) (a : Addr) : Prop := (∃ kvs, Rd H a (.dK kvs)) ∨ ∃ kvs, Rd H a (.dT kvs)
theorem isD_at {X : Cx} {pins : List (Addr × Obj)} {σ : St} {H : Hp} {s : Shared} {a : Addr} (I : Inv X pins σ H s) (d : IsD H a) :
    s.TypeIs (.ref a) "dict" ∧ (∀ b, Value.ref a = .ref b → ∃ ob, s.heap.get? b = some ob ∧ ob.dict = none) ∧ (a == sysModules) = false := by
  rcases d with ⟨kvs, e⟩ | ⟨kvs, e⟩
  · obtain ⟨_, hd, vs, _, dd⟩ := dk_rd I.hok e
    refine ⟨dd.typeIs, fun b q => ?_, hd⟩
    cases q
    obtain ⟨ob, _, _, h1, h2, _⟩ := dd
    exact ⟨ob, h1, h2.2.1⟩
  · obtain ⟨_, hd, xs, _, dd⟩ := dt_rd I.hok e
    refine ⟨dd.typeIs, fun b q => ?_, hd⟩
    cases q
    obtain ⟨ob, _, _, h1, h2, _⟩ := dd
    exact ⟨ob, h1, h2.2.1⟩

section
variable {X : Cx} {pins : List (Addr × Obj)} {σ : St} {H : Hp} {s : Shared} {a : Addr} {y d : V} {u r : Value} {o : Option V} {A : Around} {E : Value → Shared → Prop}
/-- d.get(y) -/
theorem d_get1 {Q : Value → Shared → Prop} (hu : A.units + 1 < cLine) (I : Inv X pins σ H s) (g : DGet H a y o) (ry : RelV y u) (h : ∀ w' s', Inv X pins σ H s' → RelV (o.getD .non) w' → Q w' s') :
    wpAny (model X.prog X.w) A (call (.builtin "dict.get") [.ref a, u]) Q E s := by
  rcases g with ⟨kvs, k, e, ey, l⟩ | ⟨kvs, k, b, e, ey, eb, l⟩
  · subst ey
    obtain ⟨z, hd, vs, rel, dd⟩ := dk_rd I.hok e
    refine call_meetsIn PySem.F.slot_dict_get dd.typeIs PySem.F.entry_dict_get (PySem.F.args_dict_get_2 _ _) (meets_dict_get (mixKind X.prog X.w) a (kV_is ry) hd) ⟨_, dd.mapOf, h _ _ (I.tok _) ?_⟩
    rw [l]
    exact (rel.val k).getD rfl
  · subst ey
    cases (show u = Value.ref b from ry)
    obtain ⟨z, hd, xs, rel, dd⟩ := dt_rd I.hok e
    refine call_meetsIn PySem.F.slot_dict_get dd.typeIs PySem.F.entry_dict_get (PySem.F.args_dict_get_2 _ _) (meetsH_dict_get (tupleKind (mixKind X.prog X.w)) a b hd) ⟨tupleKind_room_in1 hu, k, xs, key_of I.hok eb, dd, h _ _ (I.tok _) ?_⟩
    rw [l]
    exact (rel.val k).getD rfl
/-- d.get(y, x) -/
theorem d_get2 {Q : Value → Shared → Prop} (hu : A.units + 1 < cLine) (I : Inv X pins σ H s) (g : DGet H a y o) (ry : RelV y u) (rd : RelV d r) (h : ∀ w' s', Inv X pins σ H s' → RelV (o.getD d) w' → Q w' s') :
    wpAny (model X.prog X.w) A (call (.builtin "dict.get") [.ref a, u, r]) Q E s := by
  rcases g with ⟨kvs, k, e, ey, l⟩ | ⟨kvs, k, b, e, ey, eb, l⟩
  · subst ey
    obtain ⟨z, hd, vs, rel, dd⟩ := dk_rd I.hok e
    refine call_meetsIn PySem.F.slot_dict_get dd.typeIs PySem.F.entry_dict_get (PySem.F.args_dict_get_3 _ _ _) (meets_dict_get_default (mixKind X.prog X.w) a (kV_is ry) hd r) ⟨_, dd.mapOf, h _ _ (I.tok _) ?_⟩
    rw [l]
    exact (rel.val k).getD rd
  · subst ey
    cases (show u = Value.ref b from ry)
    obtain ⟨z, hd, xs, rel, dd⟩ := dt_rd I.hok e
    refine call_meetsIn PySem.F.slot_dict_get dd.typeIs PySem.F.entry_dict_get (PySem.F.args_dict_get_3 _ _ _) (meetsH_dict_get_default (tupleKind (mixKind X.prog X.w)) a b hd r) ⟨tupleKind_room_in1 hu, k, xs, key_of I.hok eb, dd, h _ _ (I.tok _) ?_⟩
    rw [l]
    exact (rel.val k).getD rd
end

def tDGet1 (td ty : TE) : TE := fun σ H Q => td σ H fun x H1 => ∃ a, x = .ref a ∧ IsD H1 a ∧ ty σ H1 fun y H2 => ∃ o, DGet H2 a y o ∧ Q (o.getD .non) H2
def tDGet2 (td ty tx : TE) : TE := fun σ H Q => td σ H fun x H1 => ∃ a, x = .ref a ∧ IsD H1 a ∧ ty σ H1 fun y H2 => tx σ H2 fun z H3 => ∃ o, DGet H3 a y o ∧ Q (o.getD z) H3
/-- d.pop(k): there; d.pop(k, x): there or not -/
def tDPop1 (td ty : TE) : TE := fun σ H Q => td σ H fun x H1 => ∃ a, x = .ref a ∧ IsD H1 a ∧ ty σ H1 fun y H2 => ∃ kvs k v, H2 a = some (.dK kvs) ∧ y = kV k ∧ valV kvs k = some v ∧ Q v (upd H2 a (.dK (dropK kvs k)))
def tDPop2 (td ty tx : TE) : TE := fun σ H Q => td σ H fun x H1 => ∃ a, x = .ref a ∧ IsD H1 a ∧ ty σ H1 fun y H2 => tx σ H2 fun z H3 => ∃ kvs k, H3 a = some (.dK kvs) ∧ y = kV k ∧
  (∀ v, valV kvs k = some v → Q v (upd H3 a (.dK (dropK kvs k)))) ∧ (valV kvs k = none → Q z H3)
section
variable {X : Cx} {o e f : Expr} {apos cpos : Pos} {td ty tx : TE}
theorem pe_dget1 (hu : X.A.units + 1 < cLine) (ho : PE X o td) (he : PE X e ty) (m : M1 X o "get" apos e cpos) : PE X (.Call (.Attribute o "get" apos) [e] [] cpos) (tDGet1 td ty) := by
  intro pins s σ H Q I h
  refine wpAny_Call_method m.base m.few m.line PySem.F.plainAttrs_dict PySem.F.slot_dict_get PySem.F.type_dict_get (thn (ho pins s σ H _ I h) fun u s1 ⟨x, H1, I1, rx, a, ex, d, q1⟩ => ?_)
  subst ex
  obtain rfl : u = Value.ref a := rx
  obtain ⟨t1, t2, _⟩ := isD_at I1 d
  refine ⟨t1, t2, ?_⟩
  rw [m.trees]
  refine Calls.callWith_builtin rfl (Calls.evalArgs_plain (Calls.spliced_cons (thn (he pins s1 σ H1 _ I1 q1) fun iv s2 ⟨y, H2, I2, ry, ov, g, q2⟩ => Calls.spliced_nil ?_)))
  exact d_get1 hu I2 g ry fun w' s3 I3 rw' => ⟨_, H2, I3, rw', q2⟩
theorem pe_dget2 (hu : X.A.units + 1 < cLine) (ho : PE X o td) (he : PE X e ty) (hf : PE X f tx) (m : M2 X o "get" apos e f cpos) : PE X (.Call (.Attribute o "get" apos) [e, f] [] cpos) (tDGet2 td ty tx) := by
  intro pins s σ H Q I h
  refine wpAny_Call_method m.base m.few m.line PySem.F.plainAttrs_dict PySem.F.slot_dict_get PySem.F.type_dict_get (thn (ho pins s σ H _ I h) fun u s1 ⟨x, H1, I1, rx, a, ex, d, q1⟩ => ?_)
  subst ex
  obtain rfl : u = Value.ref a := rx
  obtain ⟨t1, t2, _⟩ := isD_at I1 d
  refine ⟨t1, t2, ?_⟩
  rw [m.trees]
  refine Calls.callWith_builtin rfl (Calls.evalArgs_plain (Calls.spliced_cons (thn (he pins s1 σ H1 _ I1 q1) fun iv s2 ⟨y, H2, I2, ry, q2⟩ =>
    Calls.spliced_cons (thn (hf pins s2 σ H2 _ I2 q2) fun fv s3 ⟨z, H3, I3, rz, ov, g, q3⟩ => Calls.spliced_nil ?_))))
  exact d_get2 hu I3 g ry rz fun w' s4 I4 rw' => ⟨_, H3, I4, rw', q3⟩
theorem pe_dpop1 (ho : PE X o td) (he : PE X e ty) (m : M1 X o "pop" apos e cpos) : PE X (.Call (.Attribute o "pop" apos) [e] [] cpos) (tDPop1 td ty) := by
  intro pins s σ H Q I h
  refine wpAny_Call_method m.base m.few m.line PySem.F.plainAttrs_dict PySem.F.slot_dict_pop PySem.F.type_dict_pop (thn (ho pins s σ H _ I h) fun u s1 ⟨x, H1, I1, rx, a, ex, d, q1⟩ => ?_)
  subst ex
  obtain rfl : u = Value.ref a := rx
  obtain ⟨t1, t2, _⟩ := isD_at I1 d
  refine ⟨t1, t2, ?_⟩
  rw [m.trees]
  refine Calls.callWith_builtin rfl (Calls.evalArgs_plain (Calls.spliced_cons (thn (he pins s1 σ H1 _ I1 q1) fun iv s2 ⟨y, H2, I2, ry, kvs, k, v, ea, ey, l, q2⟩ => Calls.spliced_nil ?_)))
  subst ey
  exact d_pop I2 ea ry l (.inl rfl) fun w' s3 I3 rw' => ⟨v, _, I3, rw', q2⟩
theorem pe_dpop2 (ho : PE X o td) (he : PE X e ty) (hf : PE X f tx) (m : M2 X o "pop" apos e f cpos) : PE X (.Call (.Attribute o "pop" apos) [e, f] [] cpos) (tDPop2 td ty tx) := by
  intro pins s σ H Q I h
  refine wpAny_Call_method m.base m.few m.line PySem.F.plainAttrs_dict PySem.F.slot_dict_pop PySem.F.type_dict_pop (thn (ho pins s σ H _ I h) fun u s1 ⟨x, H1, I1, rx, a, ex, d, q1⟩ => ?_)
  subst ex
  obtain rfl : u = Value.ref a := rx
  obtain ⟨t1, t2, _⟩ := isD_at I1 d
  refine ⟨t1, t2, ?_⟩
  rw [m.trees]
  refine Calls.callWith_builtin rfl (Calls.evalArgs_plain (Calls.spliced_cons (thn (he pins s1 σ H1 _ I1 q1) fun iv s2 ⟨y, H2, I2, ry, q2⟩ =>
    Calls.spliced_cons (thn (hf pins s2 σ H2 _ I2 q2) fun fv s3 ⟨z, H3, I3, rz, kvs, k, ea, ey, q3, q4⟩ => Calls.spliced_nil ?_))))
  subst ey
  cases l : valV kvs k with
  | some v => exact d_pop I3 ea ry l (.inr ⟨fv, rfl⟩) fun w' s4 I4 rw' => ⟨v, _, I4, rw', q3 v l⟩
  | none => exact d_popD I3 ea ry l fun s4 I4 => ⟨z, H3, I4, rz, q4 l⟩
end

/-! ### dict(d): a copy -/
section
variable {X : Cx} {pins : List (Addr × Obj)} {σ : St} {H : Hp} {s : Shared} {a : Addr} {kvs : List (Key × V)} {A : Around} {E : Value → Shared → Prop}
theorem d_copyOf {Q : Value → Shared → Prop} (I : Inv X pins σ H s) (e : Rd H a (.dK kvs)) (h : ∀ p s', H p = none → Inv X pins σ (upd H p (.dK kvs)) s' → Q (.ref p) s') : wpAny (model X.prog X.w) A (call (.type "dict") [.ref a]) Q E s := by
  obtain ⟨z, hd, vs, rel, dd⟩ := dk_rd I.hok e
  refine kt_call_dict hd dd (by rw [← rel.length]; exact z) fun h' dd' hs => ?_
  refine h _ _ (I.hok.fresh (Nat.le_refl _)) (I.laid (a := s.heap.objs.size) (o := .dK kvs) (t' := s.toks) (fun b q hq => ?_) (Nat.le_refl _) (dk_new z (beq_eq_false_iff_ne.mpr (Ne.symm (Nat.ne_of_lt I.big))) rel dd'))
  exact (hs.2 b (Nat.ne_of_lt (Heap.lt_size hq))).trans (Heap.get?_push_of_some _ hq)
end


section
variable {X : Cx} {pins : List (Addr × Obj)} {σ : St} {H : Hp} {s : Shared} {a : Addr} {y : V} {u : Value} {A : Around} {E : Value → Shared → Prop}
/-- d[y], not there: a KeyError -/
theorem d_missing {Q : Value → Shared → Prop} (hu : A.units + 1 < cLine) (hh : A.handled = none) (I : Inv X pins σ H s) (g : DGet H a y none) (ry : RelV y u)
    (h : ∀ h' e t', Heap.NewExc s.heap h' e "KeyError" → E (.ref e) { s with heap := h', toks := t' }) : wpAny (model X.prog X.w) A (getItem (.ref a) u) Q E s := by
  rcases g with ⟨kvs, k, e, ey, l⟩ | ⟨kvs, k, b, e, ey, eb, l⟩
  · subst ey
    obtain ⟨z, hd, vs, rel, dd⟩ := dk_rd I.hok e
    have hn : valueAt vs k = none := RelO.none_of (by rw [l]; exact rel.val k)
    exact wpAny_getItem_missing_of (kV_is ry) hd hh dd.mapOf hn fun h' ex ne => h h' ex _ ne
  · subst ey
    cases (show u = Value.ref b from ry)
    obtain ⟨z, hd, xs, rel, dd⟩ := dt_rd I.hok e
    have hn : (atKey xs k).map (·.2) = none := RelO.none_of (by rw [l]; exact rel.val k)
    exact wpAny_getItem_missing_heap (tupleKind_room_in1 hu) (key_of I.hok eb) hd hh dd (Option.map_eq_none_iff.mp hn) fun h' ex ne => h h' ex _ ne
end
end L2



namespace L2
open PySem PySem.Spec PyProof.Rows

/-! ### iterators: a text's signs, enumerate of a list -/
def Its (x : Str) : It := ⟨fun i _ => i < x.cps.size, fun i H v H' => H' = H ∧ ∃ c, x.cps[i]? = some c ∧ v = .str ⟨#[c]⟩, fun i _ => i = x.cps.size⟩
theorem turn_str {P : Program} {w : World} {K : PySem.W.Frag} {tg : Expr} (it : Addr) (ty : String) (x : Str) (t : Tok)
    (hW : ∀ A : Around, A.handled = none → Walks P w A it [it] [it] x.cps.size (SignAt x) (fun i h => h.IsStrIter it ty x t i))
    (hS : ∀ (A : Around) (i : Nat) (s : Shared) (Q : Value → Shared → Prop) (E : Value → Shared → Prop), s.heap.IsStrIter it ty x t i → Q (.ref it) s → wpAny (model P w) A (pyIter (.ref it)) Q E s)
    (hn : ["enumerate", "zip", "dict_itemiterator", "dict_reverseitemiterator", "odict_iterator", "itertools.zip_longest", "itertools.pairwise"].contains ty = false) :
    Turn P w K tg (Its x) [it] it (fun i h => h.IsStrIter it ty x t i) where
  mem := by simp
  obj := fun i h st b hb => by
    have e : b = it := by simpa using hb
    subst e
    obtain ⟨o, e, c, d⟩ := st
    exact ⟨o, e, fun v z => by rw [d] at z; cases z⟩
  keep := fun i h h' st k => by
    obtain ⟨o, ho, r⟩ := st
    exact ⟨o, k it (by simp) o ho, r⟩
  item := by
    intro X hP hw hK hc i pins s σ H E I hf st hg
    subst hP hw hK
    obtain ⟨f0, f1, f2, f3, f4, f5⟩ := hf it (by simp)
    refine (hW X.A (I.ok.hd hc)).item i s _ _ hg st fun v h' tk hv st' kk => ?_
    obtain ⟨c, u, hcx, rfl⟩ := hv
    have I1 : Inv X pins σ H { s with heap := h', toks := tk } := I.turned (fun b o hb e => kk b o (by simpa using hb) e) f0 f1 f3 f4 f5
    obtain ⟨o, e, cc, d⟩ := id st'
    exact ⟨_, rfl, go_of (s := { s with heap := h', toks := tk }) e cc d hn ⟨.str ⟨#[c]⟩, H, I1, ⟨u, rfl⟩, ⟨rfl, c, hcx, rfl⟩, st', fun b hb => (hf b hb).1⟩⟩
  done := by
    intro X hP hw hK hc i pins s σ H E I hf st hg
    subst hP hw hK
    obtain ⟨f0, f1, f2, f3, f4, f5⟩ := hf it (by simp)
    have hi : i = x.cps.size := hg
    subst hi
    exact (hW X.A (I.ok.hd hc)).done s _ _ st fun h' tk kk => ⟨rfl, I.turned (fun b o hb e => kk b o (by simpa using hb) e) f0 f1 f3 f4 f5⟩
  self := hS

/-- enumerate of the list at a -/
def Ite (K : PySem.W.Frag) (a : Addr) : It :=
  ⟨fun i H => ∃ xs x, SqL K H a xs ∧ xs[i]? = some x,
   fun i H v H' => ∃ p x, H p = none ∧ (∀ xs, SqL K H a xs → xs[i]? = some x) ∧ v = .ref p ∧ H' = upd H p (.tup [.int (i : Nat), x]),
   fun i H => ∃ xs, SqL K H a xs ∧ xs.length ≤ i⟩
theorem turn_enum {P : Program} {w : World} {K : PySem.W.Frag} {elts : List Expr} {x1 : Nat} {tp : Pos} (a it e : Addr) (hne : e ≠ it) :
    Turn P w K (.Tuple elts x1 tp) (Ite K a) [e, it] e (fun i h => (∃ old, IsEnum h e it ((i : Nat) : Int) old) ∧ h.IsListIter it a i) where
  mem := by simp
  obj := fun i h st b hb => by
    obtain ⟨⟨old, he⟩, hi⟩ := st
    rcases List.mem_cons.mp hb with z | z
    · subst z
      exact ⟨_, he, fun v z => by
        have z' : Data.fields _ = Data.cell v := z
        cases z'⟩
    · have e2 : b = it := by simpa using z
      subst e2
      obtain ⟨o, e, c, d⟩ := hi
      exact ⟨o, e, fun v z => by rw [d] at z; cases z⟩
  keep := fun i h h' st k => by
    obtain ⟨⟨old, he⟩, hi⟩ := st
    exact ⟨⟨old, k e (by simp) _ he⟩, hi.at fun o e' => k it (by simp) o e'⟩
  item := by
    intro X hP hw hK hc i pins s σ H E I hf st hg
    subst hP hw hK
    obtain ⟨xs, x, hq, hx⟩ := hg
    obtain ⟨its, rv, p, hz⟩ := I.list hq
    obtain ⟨u, hu, ru⟩ := rv.get hx
    obtain ⟨⟨old, he⟩, hit⟩ := st
    obtain ⟨f0, f1, f2, f3, f4, f5⟩ := hf e (by simp)
    obtain ⟨g0, g1, g2, g3, g4, g5⟩ := hf it (by simp)
    have hel : e < s.heap.objs.size := Heap.lt_size he
    have hil : it < s.heap.objs.size := by
      obtain ⟨o, eo, _⟩ := hit
      exact Heap.lt_size eo
    refine wpAny_pyNext_enum_item he hit p.isList (x := u) (by simpa using hu) hne fun h' ho hit' ht hsz kk => ?_
    refine ⟨_, rfl, ?_⟩
    refine wpAny_letOwnedTupleGo_enum ho fun h'' he'' sb => ?_
    have all : ∀ b o, b ≠ e → b ≠ it → s.heap.get? b = some o → h''.get? b = some o := fun b o hbe hbi q => (sb.2 b hbe).trans (kk b o hbe hbi q)
    have hT : h''.get? s.heap.objs.size = some { cls := .type "tuple", data := .seq #[.int i s.toks, u] } := (sb.2 _ (Nat.ne_of_gt hel)).trans ht
    have hn : H s.heap.objs.size = none := I.hok.fresh (Nat.le_refl _)
    have tne : ∀ b o, H b = some o → b ≠ e ∧ b ≠ it := fun b o q => ⟨ne_of_none q f0, ne_of_none q g0⟩
    have out : ∀ b, b ∉ [e, it] → b ≠ e ∧ b ≠ it := fun b hb => ⟨fun z => hb (by simp [z]), fun z => hb (by simp [z])⟩
    have lt : ∀ b o, s.heap.get? b = some o → b ≠ s.heap.objs.size := fun b o q => Nat.ne_of_lt (Heap.lt_size q)
    have I1 : Inv X pins σ (upd H s.heap.objs.size (.tup [.int (i : Nat), x])) { s with heap := h'', gens := s.gens, drawn := s.drawn, toks := s.toks + 1 } := by
      refine I.step (g' := s.gens) (d' := s.drawn) (ch := [e, it]) (fun b hb => ?_) (fun b o _ _ hc q _ => all b o (out b hc).1 (out b hc).2 q) (fun b o _ _ hc q _ => ⟨o.slots, all b o (out b hc).1 (out b hc).2 q⟩)
        (fun b o hc q n => by rw [upd_ne (lt b o q)]; exact n) (fun b o hc q => ⟨o, all b o (out b hc).1 (out b hc).2 q⟩)
        (fun b xs q => by rw [upd_ne (ne_of_none q hn)]; exact q) (fun b o u q => by rw [upd_ne (ne_of_none q hn)]; exact q) (fun b ps q => ⟨#[], by rw [upd_ne (ne_of_none q hn), q]; simp⟩) (fun m hm => ?_) (fun b o q => ?_) I.bare
      · rcases List.mem_cons.mp hb with z | z
        · subst z; exact ⟨f3, f1, f4, f5⟩
        · have z2 : b = it := by simpa using z
          subst z2; exact ⟨g3, g1, g4, g5⟩
      · obtain ⟨o, es, ep, ho', r⟩ := hm
        exact ⟨o, es, ep, all _ o (Ne.symm f1) (Ne.symm g1) ho', r⟩
      · by_cases hb : b = s.heap.objs.size
        · subst hb
          rw [upd_same] at q
          cases q
          exact ⟨by show 2 ≤ sizeLine; decide, [.int i s.toks, u], .cons ⟨_, rfl⟩ (.cons ru .nil), ⟨_, hT, rfl, _, rfl⟩⟩
        · rw [upd_ne hb] at q
          refine (I.hok b o q).stay (fun c v hc' q' => ?_) (fun c q' => by rw [upd_ne (ne_of_none q' hn)]; exact q') (fun c xs q' => by rw [upd_ne (ne_of_none q' hn)]; exact q')
          rcases hc' with z | z
          · subst z; exact all c v (tne c o q).1 (tne c o q).2 q'
          · exact all c v (tne c _ z).1 (tne c _ z).2 q'
    refine ⟨.ref s.heap.objs.size, _, I1, rfl, ⟨_, x, hn, fun ys hy => by rw [I.list_inj hy hq]; exact hx, rfl, rfl⟩, ⟨⟨u, by simpa using he''⟩, hit'.at fun o q => (sb.2 it (Ne.symm hne)).trans q⟩, fun b hb => ?_⟩
    have hbl : b ≠ s.heap.objs.size := by
      rcases List.mem_cons.mp hb with z | z
      · subst z; exact Nat.ne_of_lt hel
      · have z2 : b = it := by simpa using z
        subst z2; exact Nat.ne_of_lt hil
    rw [upd_ne hbl]
    exact (hf b hb).1
  done := by
    intro X hP hw hK hc i pins s σ H E I hf st hg
    subst hP hw hK
    obtain ⟨xs, hq, hx⟩ := hg
    obtain ⟨its, rv, p, hz⟩ := I.list hq
    obtain ⟨⟨old, he⟩, hit⟩ := st
    obtain ⟨g0, g1, g2, g3, g4, g5⟩ := hf it (by simp)
    have hl := rv.length
    exact wpAny_pyNext_enum_end (I.ok.hd hc) he hit p.isList (by simp; omega) fun h' eb => ⟨rfl, I.turned (t' := s.toks) (fun b o hb q => eb b o hb q) g0 g1 g3 g4 g5⟩
  self := fun A i s Q E st h => by
    obtain ⟨⟨old, he⟩, _⟩ := st
    exact wpAny_pyIter_enum he h

section
variable {X : Cx} {tg : Expr}
def iStr (tl : TE) : TI := fun σ H R => tl σ H fun x H1 => ∃ z, x = .str z ∧ R (Its z) H1
theorem pi_str {l : Expr} {tl : TE} (hl : PE X l tl) : PI X tg l (iStr tl) := by
  intro pins s σ H R I h
  refine thn (hl pins s σ H _ I h) fun v s1 ⟨x, H1, I1, r1, q1⟩ => ?_
  obtain ⟨z, e, q⟩ := q1
  subst e
  obtain ⟨t, rfl⟩ := r1
  have fp : ∀ b ∈ [s1.heap.objs.size], FpOk X pins H1 b := fun b hb => by
    have e : b = s1.heap.objs.size := by simpa using hb
    subst e
    exact I1.fpOk (Nat.le_refl _) (I1.hok.fresh (Nat.le_refl _))
  cases ha : z.cps.all (· < 128)
  · exact wpAny_pyIter_wide ha ⟨s1.heap.objs.size, [s1.heap.objs.size], _, _, H1, rfl, I1.kept (t' := s1.toks) fun b o e => Heap.get?_push_of_some _ e,
      turn_str _ "str_iterator" z t (fun A hA => Walks.strWide hA _ z t) (fun A i s Q E st hQ => wpAny_pyIter_striter_wide st hQ) (by decide), ⟨_, Heap.get?_push_size _ rfl, rfl, rfl⟩, fp, q⟩
  · exact wpAny_pyIter_ascii ha ⟨s1.heap.objs.size, [s1.heap.objs.size], _, _, H1, rfl, I1.kept (t' := s1.toks) fun b o e => Heap.get?_push_of_some _ e,
      turn_str _ "str_ascii_iterator" z t (fun A hA => Walks.strAscii hA _ z t) (fun A i s Q E st hQ => wpAny_pyIter_striter_ascii st hQ) (by decide), ⟨_, Heap.get?_push_size _ rfl, rfl, rfl⟩, fp, q⟩
def iEnum (K : PySem.W.Frag) (ta : TA) : TI := fun σ H R => ta σ H fun vs H1 => ∃ a, vs = [.ref a] ∧ (∃ xs, SqL K H1 a xs) ∧ R (Ite K a) H1
theorem pi_enum {a : Expr} {ta : TA} {p pos tp : Pos} {elts : List Expr} {x1 : Nat} (hg : Gl X "enumerate") (hm : X.mg "enumerate" = none) (ha : PA X [a] ta) (hs : starEach [a] X.env = [(false, eval a X.env)] := by rfl) :
    PI X (.Tuple elts x1 tp) (.Call (.Name "enumerate" p) [a] [] pos) (iEnum X.K ta) := by
  intro pins s σ H R I h
  refine Call_ (ld_blt I hg hm boot_enumerate (PyProof.Rows.callWith_type1 (thn (ha pos pins s σ H _ I h) fun us s1 ⟨vs, H1, I1, r1, q1⟩ => ?_) hs rfl))
  obtain ⟨l, e, ⟨xs, hq⟩, q⟩ := q1
  subst e
  cases r1 with
  | cons r rr =>
    cases rr
    cases r
    obtain ⟨its, rv, pl, hz⟩ := I1.list hq
    refine call_enumerate_list pl.isList fun h' he hi hsz kk => ?_
    have I2 : Inv X pins σ H1 { s1 with heap := h' } := I1.kept (t' := s1.toks) kk
    refine wpAny_pyIter_enum he ⟨s1.heap.objs.size + 1, [s1.heap.objs.size + 1, s1.heap.objs.size], _, _, H1, rfl, I2, turn_enum l _ _ (Nat.succ_ne_self _), ⟨⟨_, he⟩, hi⟩, fun b hb => ?_, q⟩
    have hle : s1.heap.objs.size ≤ b := by
      rcases List.mem_cons.mp hb with z | z
      · subst z; exact Nat.le_succ _
      · have z2 : b = s1.heap.objs.size := by simpa using z
        subst z2; exact Nat.le_refl _
    exact I1.fpOk hle (I1.hok.fresh hle)
end

/-- over the signs of a text -/
theorem for_str {x : Str} {g : TG} {tb : TS} {D : Ends} {σ : St} {H : Hp} (Pv : Nat → St → Hp → Prop) (h0 : Pv 0 σ H)
    (hs : ∀ i c σ H, x.cps[i]? = some c → Pv i σ H → g (.str ⟨#[c]⟩) σ H fun σ2 H2 => tb { D with nx := Pv (i + 1), ct := Pv (i + 1), bk := D.nx } σ2 H2) (hd : ∀ σ H, Pv x.cps.size σ H → D.nx σ H) :
    ∃ W : Nat → Nat → St → Hp → Prop, (∃ m, W 0 m σ H) ∧ ∀ i m σ H, W i m σ H →
      ((Its x).stop i H ∧ D.nx σ H) ∨ ((Its x).go i H ∧ ∃ N : St → Hp → Prop, (∀ σ' H', N σ' H' → ∃ m', m' < m ∧ W (i + 1) m' σ' H') ∧ ∀ v H', (Its x).yld i H v H' → g v σ H' fun σ2 H2 => tb { D with nx := N, ct := N, bk := D.nx } σ2 H2) := by
  refine ⟨fun i m σ H => m = x.cps.size - i ∧ i ≤ x.cps.size ∧ Pv i σ H, ⟨x.cps.size, by simp, Nat.zero_le _, h0⟩, ?_⟩
  rintro i m σ H ⟨rfl, hi, p⟩
  by_cases hlt : i < x.cps.size
  · refine .inr ⟨hlt, Pv (i + 1), fun σ' H' p' => ⟨x.cps.size - (i + 1), by omega, rfl, hlt, p'⟩, fun v H' y => ?_⟩
    obtain ⟨e, c, hc, e2⟩ := y
    subst e e2
    exact hs i c σ _ hc p
  · have e : i = x.cps.size := by omega
    subst e
    exact .inl ⟨rfl, hd σ H p⟩
/-- over enumerate of a list that the body leaves as it is -/
theorem for_enum {K : PySem.W.Frag} {a : Addr} {xs : List V} {g : TG} {tb : TS} {D : Ends} {σ : St} {H : Hp} (Pv : Nat → St → Hp → Prop) (h0 : Pv 0 σ H) (hl : ∀ i σ H, i ≤ xs.length → Pv i σ H → SqL K H a xs)
    (hs : ∀ i x σ H p, xs[i]? = some x → Pv i σ H → H p = none → g (.ref p) σ (upd H p (.tup [.int (i : Nat), x])) fun σ2 H2 => tb { D with nx := Pv (i + 1), ct := Pv (i + 1), bk := D.nx } σ2 H2) (hd : ∀ σ H, Pv xs.length σ H → D.nx σ H) :
    ∃ W : Nat → Nat → St → Hp → Prop, (∃ m, W 0 m σ H) ∧ ∀ i m σ H, W i m σ H →
      ((Ite K a).stop i H ∧ D.nx σ H) ∨ ((Ite K a).go i H ∧ ∃ N : St → Hp → Prop, (∀ σ' H', N σ' H' → ∃ m', m' < m ∧ W (i + 1) m' σ' H') ∧ ∀ x H', (Ite K a).yld i H x H' → g x σ H' fun σ2 H2 => tb { D with nx := N, ct := N, bk := D.nx } σ2 H2) := by
  refine ⟨fun i m σ H => m = xs.length - i ∧ i ≤ xs.length ∧ Pv i σ H, ⟨xs.length, by simp, Nat.zero_le _, h0⟩, ?_⟩
  rintro i m σ H ⟨rfl, hi, p⟩
  have q := hl i σ H hi p
  by_cases hlt : i < xs.length
  · refine .inr ⟨⟨xs, xs[i], q, by simp [hlt]⟩, Pv (i + 1), fun σ' H' p' => ⟨xs.length - (i + 1), by omega, rfl, hlt, p'⟩, fun x H' y => ?_⟩
    obtain ⟨t, z, ht, hz, e1, e2⟩ := y
    subst e1 e2
    exact hs i z σ H t (hz xs q) p ht
  · have e : i = xs.length := by omega
    subst e
    exact .inl ⟨⟨xs, q, Nat.le_refl _⟩, hd σ H p⟩

/-! ### a list comprehension of one clause -/
/-- the block's context: own, its own names; capn, the def's names that it reads -/
abbrev blockCx (X : Cx) (scope : Scope) (N : List Str) (cl : List (Str × Addr)) (C : Addr) (fp : List Addr) (s : Shared) (H : Hp) : Cx :=
  { X with N := N, s₀ := s, H₀ := H, env := compEnvC scope cl C X.env, outer := X.stack, stack := X.stack, ex := fp, fn := fun _ => false, pn := [], xe := fun _ _ => False }
def capS (k : Nat) (caps : List Nat) (σ : St) : St := List.replicate k none ++ caps.map fun j => (σ[j]?).join
def tTrue : TT := fun _ H Q => Q true H
/-- the tests of a clause -/
def PTs (X : Cx) (ifs : List Expr) (t : TT) : Prop :=
  ∀ (pins : List (Addr × Obj)) (s : Shared) (σ : St) (H : Hp) (Q : Bool → Hp → Prop), Inv X pins σ H s → t σ H Q →
    wpAny (model X.prog X.w) X.A (forIn ifs true fun c r => if r = true then do let ok ← isTrue c X.env (eval c X.env); pure (ForInStep.yield ok) else pure (ForInStep.yield r)) (TP X pins σ Q) X.xe s
theorem pts_nil {X : Cx} : PTs X [] tTrue := fun pins s σ H Q I h => wpAny_tests_nil ⟨H, I, h⟩
theorem pts_one {X : Cx} {c : Expr} {t : TT} (h : PT X c t) : PTs X [c] t := fun pins s σ H Q I hw => wpAny_tests_one (h pins s σ H Q I hw)
def tCompK (k : Nat) (caps : List Nat) (g : TG) (tt : TT) (te : TE) (σ : St) (Q : VK) (J : It) (H1 : Hp) : Prop := ∃ W : Nat → Nat → List V → Hp → Prop, (∃ m, W 0 m [] H1) ∧ ∀ i m ys H, W i m ys H →
  (J.stop i H ∧ ∀ p, H p = none → Q (.ref p) (upd H p (.lst ys))) ∨
  (J.go i H ∧ ys.length < sizeLine ∧ ∀ x H', J.yld i H x H' → g x (capS k caps σ) H' fun σ2 H2 => tt σ2 H2 fun b H3 => if b = true then te σ2 H3 fun v H4 => ∃ m', m' < m ∧ W (i + 1) m' (ys ++ [v]) H4 else ∃ m', m' < m ∧ W (i + 1) m' ys H3)
def tComp (k : Nat) (caps : List Nat) (wi : TI) (g : TG) (tt : TT) (te : TE) : TE := fun σ H Q => wi σ H (tCompK k caps g tt te σ Q)
/-- the cells that the block is handed -/
def clOf (env : Env) : List (Str × NameKind) → List (Str × Addr) → List (Str × Addr)
  | [], cs => cs
  | (n, k) :: r, cs => clOf env r (if k == .free then (n, (env.cells.lookup n).getD 0) :: cs else cs)
theorem forIn_cl {env : Env} : ∀ (names : List (Str × NameKind)) (cs : List (Str × Addr)), (∀ y ∈ names, y.2 = .free → ∃ c, env.cells.lookup y.1 = some c) →
    (forIn names cs fun (x : Str × NameKind) (cs : List (Str × Addr)) => (if (x.2 == NameKind.free) = true then do let a ← cellOf env x.1; pure (ForInStep.yield ((x.1, a) :: cs)) else pure (ForInStep.yield cs) : Sem _)) = (pure (clOf env names cs) : Sem _)
  | [], cs, _ => rfl
  | (n, k) :: r, cs, h => by
    have ih := fun cs => forIn_cl r cs fun y hy => h y (List.mem_cons_of_mem _ hy)
    rw [List.forIn_cons]
    cases hk : (k == NameKind.free) with
    | true =>
      obtain ⟨c, hc⟩ := h (n, k) List.mem_cons_self (by simpa using hk)
      have hco : cellOf env n = pure c := by unfold cellOf; rw [hc]
      simp only [hk, if_true, hco, clOf, hc, Option.getD_some]
      rw [← ih]
      rfl
    | false =>
      simp only [hk, Bool.false_eq_true, if_false, clOf]
      rw [← ih]
      rfl
theorem closureFor_cl {env : Env} {scope : Scope} (h : ∀ y ∈ scope.names, y.2 = .free → ∃ c, env.cells.lookup y.1 = some c) : closureFor scope env = pure (clOf env scope.names []) := by
  unfold closureFor
  have e := forIn_cl scope.names [] h
  exact (congrArg (fun z : Sem (List (Str × Addr)) => z >>= fun r => pure r) e).trans rfl
theorem clOf_lookup {env : Env} : ∀ (names : List (Str × NameKind)) (cs : List (Str × Addr)), (∀ y ∈ names, y.2 = .free → ∃ c, env.cells.lookup y.1 = some c) → (∀ x c, cs.lookup x = some c → env.cells.lookup x = some c) →
    (∀ x c, (clOf env names cs).lookup x = some c → env.cells.lookup x = some c) ∧ (∀ x, ((x, NameKind.free) ∈ names ∨ ∃ c, cs.lookup x = some c) → ∃ c, (clOf env names cs).lookup x = some c)
  | [], cs, _, hcs => ⟨hcs, fun x hx => hx.elim (fun z => nomatch z) id⟩
  | (n, k) :: r, cs, h, hcs => by
    have hr : ∀ y ∈ r, y.2 = .free → ∃ c, env.cells.lookup y.1 = some c := fun y hy => h y (List.mem_cons_of_mem _ hy)
    show (∀ x c, (clOf env r (if k == .free then (n, (env.cells.lookup n).getD 0) :: cs else cs)).lookup x = some c → _) ∧ (∀ x, _ → ∃ c, (clOf env r (if k == .free then (n, (env.cells.lookup n).getD 0) :: cs else cs)).lookup x = some c)
    cases hk : (k == NameKind.free) with
    | true =>
      have hkf : k = .free := by simpa using hk
      obtain ⟨c, hc⟩ := h (n, k) List.mem_cons_self hkf
      have hc' : env.cells.lookup n = some c := hc
      simp only [if_true]
      rw [hc', Option.getD_some]
      have ih := clOf_lookup r ((n, c) :: cs) hr (fun x d hx => by
        rw [List.lookup_cons] at hx
        cases hxn : x == n with
        | true =>
          rw [hxn] at hx
          have e1 : x = n := by simpa using hxn
          have e2 : c = d := Option.some.inj hx
          rw [e1, hc', e2]
        | false =>
          rw [hxn] at hx
          exact hcs x d hx)
      refine ⟨ih.1, fun x hx => ih.2 x ?_⟩
      have here : x = n → ∃ c', ((n, c) :: cs).lookup x = some c' := fun e => ⟨c, by rw [e, List.lookup_cons]; simp⟩
      rcases hx with hx | ⟨d, hd⟩
      · rcases List.mem_cons.mp hx with e | hx
        · have e1 : x = n := congrArg Prod.fst e
          exact .inr (here e1)
        · exact .inl hx
      · refine .inr ?_
        cases hxn : x == n with
        | true => exact here (by simpa using hxn)
        | false => exact ⟨d, by rw [List.lookup_cons, hxn]; exact hd⟩
    | false =>
      simp only [Bool.false_eq_true, if_false]
      have ih := clOf_lookup r cs hr hcs
      refine ⟨ih.1, fun x hx => ih.2 x ?_⟩
      rcases hx with hx | hx
      · rcases List.mem_cons.mp hx with e | hx
        · have e1 : NameKind.free = k := congrArg Prod.snd e
          rw [← e1] at hk
          exact absurd hk (by decide)
        · exact .inl hx
      · exact .inr hx
/-- what the block's scope says of a name that is no local of its own: it is the def's -/
theorem relabel_vis {scope : Scope} {env : Env} {x : Str} (hcell : ∀ y ∈ scope.names, y.2 ≠ .cell) (h : (relabel scope env).names.lookup x = some .cell ∨ (relabel scope env).names.lookup x = some .free) : (x, NameKind.free) ∈ scope.names := by
  have go : ∀ (l : List (Str × NameKind)), (∀ y ∈ l, y.2 ≠ .cell) → ((l.map fun (n, k) => if (k == NameKind.free && env.scope.kind == .function && env.kindOf n == some .cell) then (n, NameKind.cell) else (n, k)).lookup x = some .cell ∨
      (l.map fun (n, k) => if (k == NameKind.free && env.scope.kind == .function && env.kindOf n == some .cell) then (n, NameKind.cell) else (n, k)).lookup x = some .free) → (x, NameKind.free) ∈ l := by
    intro l
    induction l with
    | nil => intro _ h; rcases h with h | h <;> simp at h
    | cons y r ih =>
      obtain ⟨n, k⟩ := y
      intro hc h
      have hc' : ∀ y ∈ r, y.2 ≠ .cell := fun y hy => hc y (List.mem_cons_of_mem _ hy)
      rw [List.map_cons] at h
      cases hk : (k == NameKind.free) with
      | true =>
        have hkf : k = .free := by simpa using hk
        subst hkf
        cases hx : x == n with
        | true =>
          have e : x = n := by simpa using hx
          subst e
          exact List.mem_cons_self
        | false =>
          refine List.mem_cons_of_mem _ (ih hc' ?_)
          by_cases hb : (NameKind.free == NameKind.free && env.scope.kind == .function && env.kindOf n == some .cell) = true
          · simp only [hb, if_true, List.lookup_cons, hx] at h
            exact h
          · have hb' : (NameKind.free == NameKind.free && env.scope.kind == .function && env.kindOf n == some .cell) = false := by simpa using hb
            simp only [hb', Bool.false_eq_true, if_false, List.lookup_cons, hx] at h
            exact h
      | false =>
        simp only [hk, Bool.false_and, Bool.false_eq_true, if_false, List.lookup_cons] at h
        cases hx : x == n with
        | true =>
          simp only [hx] at h
          rcases h with h | h
          · exact absurd (Option.some.inj h) (hc (n, k) List.mem_cons_self)
          · have : k = .free := Option.some.inj h
            rw [this] at hk
            exact absurd hk (by decide)
        | false =>
          simp only [hx] at h
          exact List.mem_cons_of_mem _ (ih hc' h)
  exact go scope.names hcell h
end L2

namespace L2
open PySem PySem.Spec PyProof.Rows
theorem lookup_in {x : Str} {k : NameKind} : ∀ {l : List (Str × NameKind)}, l.lookup x = some k → (x, k) ∈ l
  | [], h => by simp at h
  | (n, j) :: r, h => by
    rw [List.lookup_cons] at h
    cases hx : x == n with
    | true =>
      rw [hx] at h
      have e1 : x = n := by simpa using hx
      have e2 : j = k := Option.some.inj h
      rw [e1, e2]
      exact List.mem_cons_self
    | false =>
      rw [hx] at h
      exact List.mem_cons_of_mem _ (lookup_in h)
theorem relabel_free {scope : Scope} {env : Env} {x : Str} (h : scope.names.lookup x = some .free) : (relabel scope env).names.lookup x = some .cell ∨ (relabel scope env).names.lookup x = some .free := by
  have go : ∀ (l : List (Str × NameKind)), l.lookup x = some .free → ((l.map fun (n, k) => if (k == NameKind.free && env.scope.kind == .function && env.kindOf n == some .cell) then (n, NameKind.cell) else (n, k)).lookup x = some .cell ∨
      (l.map fun (n, k) => if (k == NameKind.free && env.scope.kind == .function && env.kindOf n == some .cell) then (n, NameKind.cell) else (n, k)).lookup x = some .free) := by
    intro l
    induction l with
    | nil => intro h; simp at h
    | cons y r ih =>
      obtain ⟨n, k⟩ := y
      intro h
      rw [List.lookup_cons] at h
      rw [List.map_cons]
      cases hx : x == n with
      | true =>
        rw [hx] at h
        have e : k = .free := Option.some.inj h
        subst e
        by_cases hb : (NameKind.free == NameKind.free && env.scope.kind == .function && env.kindOf n == some .cell) = true
        · left
          simp only [hb, if_true, List.lookup_cons, hx]
        · right
          have hb' : (NameKind.free == NameKind.free && env.scope.kind == .function && env.kindOf n == some .cell) = false := by simpa using hb
          simp only [hb', Bool.false_eq_true, if_false, List.lookup_cons, hx]
      | false =>
        rw [hx] at h
        have q := ih h
        by_cases hb : (k == NameKind.free && env.scope.kind == .function && env.kindOf n == some .cell) = true
        · simp only [hb, if_true, List.lookup_cons, hx]
          exact q
        · have hb' : (k == NameKind.free && env.scope.kind == .function && env.kindOf n == some .cell) = false := by simpa using hb
          simp only [hb', Bool.false_eq_true, if_false, List.lookup_cons, hx]
          exact q
  exact go scope.names h
theorem nx {α : Type} {t : Sem α} {Q Q' : α → Shared → Prop} {M : Model} {A : Around} {E : Value → Shared → Prop} {s : Shared} (h : wpAny M A t Q (fun _ _ => False) s) (hQ : ∀ a s, Q a s → Q' a s) : wpAny M A t Q' E s := wpAny_mono h hQ fun _ _ z => z.elim

/-- what is asked of the block's scope -/
structure CompSc (X : Cx) (scope : Scope) (own capn : List Str) (caps : List Nat) : Prop where
  kind : scope.kind = .function
  cell : ∀ y ∈ scope.names, y.2 ≠ .cell
  names : ∀ y ∈ scope.names, y.2 = .local → scope.names.lookup y.1 = some .local
  free : ∀ y ∈ scope.names, y.2 = .free → X.env.kindOf y.1 = some .cell ∨ X.env.kindOf y.1 = some .free
  cn : ∀ x ∈ capn, scope.names.lookup x = some .free
  cs : caps.map (fun j => X.N[j]?) = capn.map some
section
variable {X : Cx} {scope : Scope} {own capn : List Str} {caps : List Nat} {pins : List (Addr × Obj)} {σ : St} {H : Hp} {s : Shared} {fp : List Addr} {C : Addr}
theorem CompSc.has (S : CompSc X scope own capn caps) (I : Inv X pins σ H s) : ∀ y ∈ scope.names, y.2 = .free → ∃ c, X.env.cells.lookup y.1 = some c := fun y hy hf => I.ok.has y.1 (S.free y hy hf)
theorem CompSc.cl (S : CompSc X scope own capn caps) (I : Inv X pins σ H s) :
    (∀ x c, (clOf X.env scope.names []).lookup x = some c → X.env.cells.lookup x = some c) ∧ (∀ x, (x, NameKind.free) ∈ scope.names → ∃ c, (clOf X.env scope.names []).lookup x = some c) := by
  have L := clOf_lookup scope.names [] (S.has I) (fun x c h => by simp at h)
  exact ⟨L.1, fun x hx => L.2 x (.inl hx)⟩
theorem blockOk (S : CompSc X scope own capn caps) (I : Inv X pins σ H s) (hfp : ∀ b ∈ fp, FpOk X pins H b) (hob : ∀ b ∈ fp, b < s.heap.objs.size) (hC : s.heap.objs.size ≤ C) (N : List Str) :
    (blockCx X scope N (clOf X.env scope.names []) C fp s H).Ok where
  mod := I.ok.mod
  kind := S.kind
  glob := I.ok.glob
  blt := I.ok.blt
  above := hC
  inj := fun x y c hx hy => I.ok.inj x y c ((S.cl I).1 x c hx) ((S.cl I).1 y c hy)
  has := fun x hk => (S.cl I).2 x (relabel_vis S.cell hk)
  cab := fun x c h => by cases h
  hd := I.ok.hd
  frames := I.ok.frames
  stk := .inl rfl
  exf := fun b hb => ⟨Nat.ne_of_lt (Nat.lt_of_lt_of_le (hob b hb) hC), fun x c e => (hfp b hb).2.2.2.2.1 x c ((S.cl I).1 x c e)⟩
  bs := I.bs
  bsz := Nat.le_trans I.ok.bsz I.sz
  noex := fun b o e hb => by
    rcases (hfp b hb).2.2.2.1 with z | z
    · exact I.ok.noex b o e z
    · exact absurd (Nat.lt_of_lt_of_le (Heap.lt_size (I.ok.bs b o e).1) z) (Nat.lt_irrefl _)
  exfs := fun b hb z => by
    rcases List.mem_cons.mp (I.stkSub b z) with e | e
    · exact (hfp b hb).2.1 e
    · exact (hfp b hb).2.2.1 e
  funs := I.stack
  frf := I.stkFree
/-- the captured names' values in the block -/
theorem caploc (S : CompSc X scope own capn caps) (I : Inv X pins σ H s) {h' : Heap} (hc : ∀ x c u, X.env.cells.lookup x = some c → s.heap.IsCell c (some u) → h'.IsCell c (some u)) {m : Str → Option Value} :
    ∀ (i : Nat) (x : Str) (v : V), (own ++ capn)[i]? = some x → (capS own.length caps σ)[i]? = some (some v) → ∃ u, RelV v u ∧ Look (compEnvC scope (clOf X.env scope.names []) C X.env) h' m x u := by
  intro i x v e1 e2
  have hlen : caps.length = capn.length := by
    have := congrArg List.length S.cs
    simpa using this
  by_cases hi : i < own.length
  · unfold capS at e2
    rw [List.getElem?_append_left (by simpa using hi)] at e2
    rw [List.getElem?_replicate] at e2
    split at e2
    · cases e2
    · cases e2
  · obtain ⟨j, rfl⟩ : ∃ j, i = own.length + j := ⟨i - own.length, by omega⟩
    unfold capS at e2
    rw [List.getElem?_append_right (by simp)] at e2
    rw [List.getElem?_append_right (by simp)] at e1
    have ej : own.length + j - own.length = j := by omega
    have ej2 : own.length + j - (List.replicate own.length (none : Option V)).length = j := by simp
    rw [ej] at e1
    rw [ej2, List.getElem?_map] at e2
    cases ec : caps[j]? with
    | none => rw [ec] at e2; cases e2
    | some c =>
      rw [ec] at e2
      have e3 : (σ[c]?).join = some v := Option.some.inj e2
      have hσ : σ[c]? = some (some v) := by
        cases eq : σ[c]? with
        | none => rw [eq] at e3; cases e3
        | some z => rw [eq] at e3; rw [show z = some v from e3]
      have hN : X.N[c]? = some x := by
        have q := congrArg (fun l => l[j]?) S.cs
        simp only [List.getElem?_map, ec, e1, Option.map_some] at q
        exact Option.some.inj q
      have hx : x ∈ capn := List.mem_of_getElem? e1
      have hk := S.cn x hx
      have hv := S.free (x, .free) (lookup_in hk) rfl
      obtain ⟨m0, hn0, hl⟩ := I.loc
      obtain ⟨u, ru, lk⟩ := hl c x v hN hσ (.inr hv)
      refine ⟨u, ru, ?_⟩
      rcases lk with ⟨k, _⟩ | ⟨k, cc, hcc, z⟩
      · rcases hv with hv | hv
        · have : (some NameKind.local) = some .cell := k.symm.trans hv
          cases this
        · have : (some NameKind.local) = some .free := k.symm.trans hv
          cases this
      · obtain ⟨c', hc'⟩ := (S.cl I).2 x (lookup_in hk)
        have e4 : X.env.cells.lookup x = some c' := (S.cl I).1 x c' hc'
        have e5 : c' = cc := Option.some.inj (e4.symm.trans hcc)
        subst e5
        exact .inr ⟨relabel_free hk, c', hc', hc x c' u hcc z⟩
theorem capS_len (S : CompSc X scope own capn caps) : (capS own.length caps σ).length = (own ++ capn).length := by
  have hlen : caps.length = capn.length := by
    have := congrArg List.length S.cs
    simpa using this
  unfold capS
  simp [hlen]
/-- entering the block -/
theorem blockInv (S : CompSc X scope own capn caps) (I : Inv X pins σ H s) (hfp : ∀ b ∈ fp, FpOk X pins H b) (hob : ∀ b ∈ fp, b < s.heap.objs.size) (hC : s.heap.objs.size ≤ C) {h₁ : Heap} {tk : Nat}
    (hk : ∀ b o, s.heap.get? b = some o → h₁.get? b = some o) {m : Str → Option Value} (hns : h₁.Ns C m) :
    Inv (blockCx X scope (own ++ capn) (clOf X.env scope.names []) C fp s H) [] (capS own.length caps σ) H { s with heap := h₁, toks := tk } :=
  ⟨blockOk S I hfp hob hC _, rfl, I.bare, Un.kept hk, ⟨m, hns, fun i x v e1 e2 _ => caploc S I (fun x c u _ ⟨o, ho, hd⟩ => ⟨o, hk _ _ ho, hd⟩) i x v e1 e2⟩,
    fun x c e => by
      obtain ⟨v, o, ho, hd⟩ := I.cell x c ((S.cl I).1 x c e)
      exact ⟨v, o, hk _ _ ho, hd⟩,
    I.hok.fresh hC, fun x c e => I.freeC x c ((S.cl I).1 x c e), fun p hp => (by simp at hp), I.hok.kept hk, capS_len S⟩
/-- the next turn begins with the captured values alone -/
theorem blockReset (S : CompSc X scope own capn caps) (I : Inv X pins σ H s) (hfp : ∀ b ∈ fp, FpOk X pins H b) {pins' : List (Addr × Obj)} {σ' : St} {H' : Hp} {s' : Shared}
    (J : Inv (blockCx X scope (own ++ capn) (clOf X.env scope.names []) C fp s H) pins' σ' H' s') :
    Inv (blockCx X scope (own ++ capn) (clOf X.env scope.names []) C fp s H) pins' (capS own.length caps σ) H' s' := by
  obtain ⟨m, hm, _⟩ := J.loc
  refine ⟨J.ok, J.os, J.bare, J.base, ⟨m, hm, fun i x v e1 e2 _ => caploc S I (fun x c u hc ⟨o, ho, hd⟩ => ?_) i x v e1 e2⟩, J.cell, J.free, J.freeC, J.pin, J.hok, capS_len S⟩
  have hx : c ∉ fp := fun z => (hfp c z).2.2.2.2.1 x c hc rfl
  obtain ⟨sl, e⟩ := J.base.any ho (I.freeC x c hc) hx
  exact ⟨_, e, hd⟩
end
section
variable {X : Cx} {elt iter tg : Expr} {ifs : List Expr} {scope : Scope} {pos : Pos} {own capn : List Str} {caps : List Nat} {wi : TI} {g : TG} {tt : TT} {te : TE}
abbrev lstO (ys : List Value) : Obj := { cls := .type "list", data := .seq ys.toArray ys.length }
theorem lstO_snoc (ys : List Value) (y : Value) : ({ cls := .type "list", data := .seq (ys.toArray.push y) (ys.length + 1) } : Obj) = lstO (ys ++ [y]) := by
  show ({ cls := .type "list", data := .seq (ys.toArray.push y) (ys.length + 1) } : Obj) = { cls := .type "list", data := .seq (ys ++ [y]).toArray (ys ++ [y]).length }
  rw [List.length_append, List.length_singleton, List.push_toArray]
theorem Vals.snoc {xs : List V} {us : List Value} {x : V} {u : Value} (r : Vals xs us) (q : RelV x u) : Vals (xs ++ [x]) (us ++ [u]) := PySem.Paired.snoc r q
theorem pe_comp (hc : X.calm = true) (S : CompSc X scope own capn caps) (hi : PI X tg iter wi)
    (hg : ∀ cl C fp s H, PG (blockCx X scope (own ++ capn) cl C fp s H) tg g) (ht : ∀ cl C fp s H, PTs (blockCx X scope (own ++ capn) cl C fp s H) ifs tt)
    (he : ∀ cl C fp s H, PE (blockCx X scope (own ++ capn) cl C fp s H) elt te) (hs : ∀ x, foldedSetIterable iter X.env x = pure x := by intro _; rfl) :
    PE X (.ListComp elt [⟨tg, iter, ifs, 0⟩] scope pos) (tComp own.length caps wi g tt te) := by
  intro pins s σ H Q I h
  rw [eval_ListComp]
  refine wpAny_comprehension_free (use := none) rfl hs (closureFor_cl (S.has I)) S.kind S.names (thn (hi pins s σ H _ I h) fun v s1 h1 => thn h1 fun itv s2 h2 => ?_)
  obtain ⟨it, fp, tn, J, H2, e, I2, T, st2, f2, W, ⟨m0, w0⟩, turn⟩ := h2
  subst e
  have hob : ∀ b ∈ fp, b < s2.heap.objs.size := fun b hb => by
    obtain ⟨o, e, _⟩ := T.obj _ _ st2 b hb
    exact Heap.lt_size e
  refine wpAny_newObj_type (wpAny_newFunctionEnv S.cell (by intro y hy; simp at hy) (fun h₁ hns₁ hsb₁ => ?_) S.kind)
  dsimp only at hns₁ hsb₁ ⊢
  generalize hHh : s2.heap.push { cls := .type "list", dict := none, data := .seq ([] : List Value).toArray } = Hh at hns₁ hsb₁ ⊢
  have hCs : Hh.objs.size = s2.heap.objs.size + 1 := by rw [← hHh, Heap.size_push]
  have hCle : s2.heap.objs.size ≤ Hh.objs.size := by rw [hCs]; exact Nat.le_succ _
  have hDC : s2.heap.objs.size ≠ Hh.objs.size := by rw [hCs]; exact Nat.ne_of_lt (Nat.lt_succ_self _)
  have below : ∀ b, b < s2.heap.objs.size → b ≠ Hh.objs.size ∧ b ≠ s2.heap.objs.size := fun b hb => ⟨by rw [hCs]; exact Nat.ne_of_lt (Nat.lt_succ_of_lt hb), Nat.ne_of_lt hb⟩
  have old : ∀ b o, s2.heap.get? b = some o → h₁.get? b = some o := fun b o e => hsb₁.extBut b o (below b (Heap.lt_size e)).1 (Heap.get?_push_of_some _ (hHh ▸ Heap.get?_push_of_some _ e))
  have hacc : h₁.get? s2.heap.objs.size = some (lstO []) := hsb₁.extBut _ _ hDC (Heap.get?_push_of_some _ (hHh ▸ Heap.get?_push_size _ rfl))
  have hDf : s2.heap.objs.size ∉ fp := fun z => Nat.lt_irrefl _ (hob _ z)
  have nD : ∀ {H' : Hp}, (∀ b ∈ fp, H' b = none) → ∀ {vs : List Value}, ∀ b ∈ fp, FpOk (blockCx X scope (own ++ capn) (clOf X.env scope.names []) Hh.objs.size fp s2 H2) [(s2.heap.objs.size, lstO vs)] H' b := fun {H'} hn {vs} b hb =>
    ⟨hn b hb, (below b (hob b hb)).1, fun z => by
        rcases List.mem_cons.mp (I2.stkSub b z) with e | e
        · exact (f2 b hb).2.1 e
        · exact (f2 b hb).2.2.1 e, .inl hb, fun x c e => (f2 b hb).2.2.2.2.1 x c ((S.cl I2).1 x c e), fun p hp => by
        have ep : p = (s2.heap.objs.size, lstO vs) := by simpa using hp
        subst ep
        exact Ne.symm (below b (hob b hb)).2⟩
  have cD : ∀ x c, (clOf X.env scope.names []).lookup x = some c → c ≠ s2.heap.objs.size := fun x c e z => by
    obtain ⟨v, q⟩ := I2.cell x c ((S.cl I2).1 x c e)
    exact absurd q.lt (by rw [z]; exact Nat.lt_irrefl _)
  have nfs : s2.heap.objs.size ∉ frs X.stack := fun z => by
    rcases List.mem_cons.mp (I2.stkSub _ z) with e | e
    · exact absurd I2.lt (by rw [← e]; exact Nat.lt_irrefl _)
    · exact I2.nofs (Nat.le_refl _) e
  have pinD : ∀ {σ' : St} {H' : Hp} {s' : Shared} {vs : List Value}, Inv (blockCx X scope (own ++ capn) (clOf X.env scope.names []) Hh.objs.size fp s2 H2) [] σ' H' s' → s'.heap.get? s2.heap.objs.size = some (lstO vs) → H' s2.heap.objs.size = none →
      Inv (blockCx X scope (own ++ capn) (clOf X.env scope.names []) Hh.objs.size fp s2 H2) [(s2.heap.objs.size, lstO vs)] σ' H' s' := fun {σ' H' s' vs} J e n =>
    J.pins_of fun p hp => by
      have ep : p = (s2.heap.objs.size, lstO vs) := by simpa using hp
      subst ep
      exact ⟨e, n, hDC, nfs, fun v z => by
        have z' : Data.seq _ _ = Data.cell v := z
        cases z'⟩
  have hI0 := blockInv (own := own) (capn := capn) (caps := caps) (tk := s2.toks + ([] : List (Str × Value)).length) S I2 f2 hob hCle old hns₁
  have loop : ∀ s3 : Shared, s3 = { s2 with heap := h₁, toks := s2.toks + ([] : List (Str × Value)).length } →
      codeAny (model X.prog X.w) X.A (.compLoop (.ListComp elt [⟨tg, iter, ifs, 0⟩] scope pos) 0 (.ref it) (.ref s2.heap.objs.size) (compEnvC scope (clOf X.env scope.names []) Hh.objs.size X.env))
        (compPost (model X.prog X.w) X.A X.xe none (EP X pins σ Q) (.ref s2.heap.objs.size) Hh.objs.size) s3 := by
    rintro s3 rfl
    refine codeAny_loop rfl (fun n s' => ∃ i ys vs H', Inv (blockCx X scope (own ++ capn) (clOf X.env scope.names []) Hh.objs.size fp s2 H2) [] (capS own.length caps σ) H' s' ∧ tn i s'.heap ∧ (∀ b ∈ fp, H' b = none) ∧
      s'.heap.get? s2.heap.objs.size = some (lstO vs) ∧ H' s2.heap.objs.size = none ∧ Vals ys vs ∧ ys.length ≤ sizeLine ∧ W i n ys H') ?_ m0
      ⟨0, [], [], H2, hI0, T.keep _ _ _ st2 (fun b hb o e => old b o e), fun b hb => (f2 b hb).1, hacc, I2.hok.fresh (Nat.le_refl _), .nil, Nat.zero_le _, w0⟩
    rintro n s3 ⟨i, ys, vs, H3, I3, st3, fr3, hD3, hDn3, rv3, hz3, w3⟩
    show wpAny _ X.A ((compTurn (.ListComp elt [⟨tg, iter, ifs, 0⟩] scope pos) 0 (.ref it) (.ref s2.heap.objs.size) (compEnvC scope (clOf X.env scope.names []) Hh.objs.size X.env)).onRaise (fun x => do noteFrame x (compEnvC scope (clOf X.env scope.names []) Hh.objs.size X.env); theTreesLotGoes x)) _ _ s3
    refine wpAny_noted ?_
    rw [compTurn_list]
    have I3' := pinD I3 hD3 hDn3
    rcases turn i n ys H3 w3 with ⟨stop, fin⟩ | ⟨go, hlt, step⟩
    · refine wpAny_bind (wpAny_standAt (wpAny_bind (thn (T.done (blockCx X scope (own ++ capn) (clOf X.env scope.names []) Hh.objs.size fp s2 H2) rfl rfl rfl hc i _ s3 _ H3 _ I3' (nD fr3) st3 stop) fun r s4 ⟨hr, I4⟩ => ?_)))
      subst hr
      refine wpAny_pure ?_
      obtain ⟨m, hm, _⟩ := id I4.loc
      have pD := I4.pin (s2.heap.objs.size, lstO vs) (List.mem_append_right _ (by simp))
      refine ⟨m, hm, fun h' hsb => ?_⟩
      have lt2 : ∀ b o, s2.heap.get? b = some o → b < s2.heap.objs.size := fun b o e => Heap.lt_size e
      have u : Un (frs X.stack) fp H2 (upd H3 s2.heap.objs.size (.lst ys)) s2.heap h' :=
        { keep := fun b o e n hb hx => (hsb.2 b (below b (lt2 b o e)).1).trans (I4.base.keep b o e n hb hx)
          slot := fun b o e n hb hx => by
            obtain ⟨sl, q⟩ := I4.base.slot b o e n hb hx
            exact ⟨sl, (hsb.2 b (below b (lt2 b o e)).1).trans q⟩
          free := fun b o e n hx => by
            rw [upd_ne (below b (lt2 b o e)).2]
            exact I4.base.free b o e n hx
          there := fun b o e hx => by
            obtain ⟨o', q⟩ := I4.base.there b o e hx
            exact ⟨o', (hsb.2 b (below b (lt2 b o e)).1).trans q⟩
          tups := fun b xs e => by
            have q := I4.base.tups b xs e
            rw [upd_ne (ne_of_none q hDn3)]; exact q
          frzs := fun b o u e => by
            have q := I4.base.frzs b o u e
            rw [upd_ne (ne_of_none q hDn3)]; exact q
          tbls := fun b ps e => by
            obtain ⟨more, q⟩ := I4.base.tbls b ps e
            exact ⟨more, by rw [upd_ne (ne_of_none q hDn3)]; exact q⟩ }
      have hok : HOk X.prog X.w (upd H3 s2.heap.objs.size (.lst ys)) h' := fun b o q => by
        by_cases hb : b = s2.heap.objs.size
        · subst hb
          rw [upd_same] at q
          cases q
          exact ⟨hz3, vs, vs.length, rv3, (hsb.2 _ hDC).trans pD.1⟩
        · rw [upd_ne hb] at q
          refine (I4.hok b o q).stay (fun c v hc' q' => (hsb.2 c ?_).trans q') (fun c q' => by rw [upd_ne (ne_of_none q' hDn3)]; exact q') (fun c xs q' => by rw [upd_ne (ne_of_none q' hDn3)]; exact q')
          have fC : H3 Hh.objs.size = none := I4.free
          rcases hc' with z | z
          · subst z; exact ne_of_none q fC
          · exact ne_of_none z fC
      refine ⟨.ref s2.heap.objs.size, _, I2.call' (s' := { s4 with heap := h' }) (ch := fp) I4.os u hok I4.bare (fun b hb => ⟨(f2 b hb).2.2.2.1, (f2 b hb).2.1, (f2 b hb).2.2.2.2.1, (f2 b hb).2.2.2.2.2⟩), rfl, fin _ hDn3⟩
    · refine wpAny_bind (wpAny_standAt (wpAny_bind (thn (T.item (blockCx X scope (own ++ capn) (clOf X.env scope.names []) Hh.objs.size fp s2 H2) rfl rfl rfl hc i _ s3 _ H3 _ I3' (nD fr3) st3 go) fun r s4 ⟨u, hr, h4⟩ => ?_)))
      subst hr
      refine wpAny_bind (thn h4 fun _ s5 ⟨x, H5, I5, r5, y5, st5, fr5⟩ => ?_)
      have I5' := I5.pinned (nD fr5) (T.obj _ _ st5)
      refine wpAny_bind (nx (hg _ _ _ _ _ _ s5 _ H5 x u _ I5' r5 (step x H5 y5)) fun _ s6 ⟨σ6, H6, I6, q6⟩ => ?_)
      refine wpAny_bind (nx (ht _ _ _ _ _ _ s6 σ6 H6 _ I6 q6) fun ok s7 ⟨H7, I7, q7⟩ => ?_)
      have back : ∀ {σ8 : St} {H8 : Hp} {s8 : Shared} {h9 : Heap}, Inv (blockCx X scope (own ++ capn) (clOf X.env scope.names []) Hh.objs.size fp s2 H2) ([(s2.heap.objs.size, lstO vs)] ++ pinsAt fp s5.heap) σ8 H8 s8 →
          (∀ b o, b ≠ s2.heap.objs.size → s8.heap.get? b = some o → h9.get? b = some o) →
          Inv (blockCx X scope (own ++ capn) (clOf X.env scope.names []) Hh.objs.size fp s2 H2) [] (capS own.length caps σ) H8 { s8 with heap := h9 } ∧ tn (i + 1) h9 ∧ (∀ b ∈ fp, H8 b = none) ∧ H8 s2.heap.objs.size = none := fun {σ8 H8 s8 h9} I8 k9 => by
        have pD := I8.pin (s2.heap.objs.size, lstO vs) (List.mem_append_right _ (List.mem_append_left _ (by simp)))
        have I9 : Inv (blockCx X scope (own ++ capn) (clOf X.env scope.names []) Hh.objs.size fp s2 H2) [] σ8 H8 s8 := I8.pins_of fun p hp => by simp at hp
        refine ⟨blockReset S I2 f2 (I9.turned (t' := s8.toks) k9 pD.2.1 hDC (.inr (Nat.le_refl _)) cD (fun p hp => by simp at hp)), T.keep _ _ _ st5 fun b hb o e => ?_, fun b hb => ?_, pD.2.1⟩
        · exact k9 b o (below b (hob b hb)).2 (I8.pin (b, o) (List.mem_append_right _ (List.mem_append_right _ (mem_pinsAt hb e)))).1
        · obtain ⟨o, e, d⟩ := T.obj _ _ st5 b hb
          exact (I8.pin (b, o) (List.mem_append_right _ (List.mem_append_right _ (mem_pinsAt hb e)))).2.1
      cases ok with
      | false =>
        rw [if_neg Bool.false_ne_true] at q7
        obtain ⟨m', hm, w7⟩ := q7
        obtain ⟨B1, B2, B3, B4⟩ := back (h9 := s7.heap) I7 fun _ _ _ e => e
        have pD := I7.pin (s2.heap.objs.size, lstO vs) (List.mem_append_right _ (List.mem_append_left _ (by simp)))
        exact wpAny_pure ⟨rfl, m', hm, i + 1, ys, vs, H7, B1, B2, B3, pD.1, B4, rv3, hz3, w7⟩
      | true =>
        rw [if_pos rfl] at q7
        refine wpAny_bind (wpAny_bind (nx (he _ _ _ _ _ _ s7 σ6 H7 _ I7 q7) fun u8 s8 ⟨v8, H8, I8, r8, m', hm, w8⟩ => ?_))
        have pD := I8.pin (s2.heap.objs.size, lstO vs) (List.mem_append_right _ (List.mem_append_left _ (by simp)))
        have hlen := rv3.length
        refine wpAny_bind (append_at (its := vs.toArray) (n := vs.length) (hsz := by rw [List.size_toArray]; omega) pD.1 fun h9 hs9 hD9 => ?_)
        obtain ⟨B1, B2, B3, B4⟩ := back (h9 := h9) I8 fun b o hb e => (hs9.2 b hb).trans e
        exact wpAny_pure (wpAny_pure ⟨rfl, m', hm, i + 1, ys ++ [v8], vs ++ [u8], H8, B1, B2, B3, hD9.trans (congrArg some (lstO_snoc vs u8)), B4, rv3.snoc r8, by rw [List.length_append, List.length_singleton]; omega, w8⟩)
  exact codeAny_compStart_list (loop _ rfl) (T.self _ 0 _ _ _ (T.keep _ _ _ st2 (fun b hb o e => old b o e)) (loop _ rfl))

/-! ### the forms one uses -/
/-- over a range -/
theorem comp_range {lo : Int} {n : Nat} {σ : St} {Q : VK} {k : Nat} {caps : List Nat} {g : TG} {tt : TT} {te : TE} {H : Hp} (Pv : Nat → List V → Hp → Prop) (h0 : Pv 0 [] H) (hz : ∀ i ys H, i < n → Pv i ys H → ys.length < sizeLine)
    (hs : ∀ i ys H (K : List V → Hp → Prop), i < n → Pv i ys H → (∀ ys' H', Pv (i + 1) ys' H' → K ys' H') → g (.int (lo + i)) (capS k caps σ) H fun σ2 H2 => tt σ2 H2 fun b H3 => if b = true then te σ2 H3 fun v H4 => K (ys ++ [v]) H4 else K ys H3)
    (hd : ∀ ys H p, Pv n ys H → H p = none → Q (.ref p) (upd H p (.lst ys))) :
    tCompK k caps g tt te σ Q (Itr lo n) H := by
  refine ⟨fun i m ys H => m = n - i ∧ i ≤ n ∧ Pv i ys H, ⟨n, by simp, Nat.zero_le _, h0⟩, ?_⟩
  rintro i m ys H ⟨rfl, hi, p⟩
  by_cases hlt : i < n
  · refine .inr ⟨hlt, hz i ys H hlt p, fun x H' y => ?_⟩
    obtain ⟨e, y⟩ := y
    subst e y
    exact hs i ys _ (fun ys' H' => ∃ m', m' < n - i ∧ (m' = n - (i + 1) ∧ i + 1 ≤ n ∧ Pv (i + 1) ys' H')) hlt p fun ys' H' q => ⟨n - (i + 1), by omega, rfl, hlt, q⟩
  · have e : i = n := by omega
    subst e
    exact .inl ⟨Nat.le_refl _, fun pp hp => hd ys H pp p hp⟩
/-- over a text -/
theorem comp_str {x : Str} {σ : St} {Q : VK} {k : Nat} {caps : List Nat} {g : TG} {tt : TT} {te : TE} {H : Hp} (Pv : Nat → List V → Hp → Prop) (h0 : Pv 0 [] H) (hz : ∀ i ys H, i < x.cps.size → Pv i ys H → ys.length < sizeLine)
    (hs : ∀ i c ys H (K : List V → Hp → Prop), x.cps[i]? = some c → Pv i ys H → (∀ ys' H', Pv (i + 1) ys' H' → K ys' H') → g (.str ⟨#[c]⟩) (capS k caps σ) H fun σ2 H2 => tt σ2 H2 fun b H3 => if b = true then te σ2 H3 fun v H4 => K (ys ++ [v]) H4 else K ys H3)
    (hd : ∀ ys H p, Pv x.cps.size ys H → H p = none → Q (.ref p) (upd H p (.lst ys))) :
    tCompK k caps g tt te σ Q (Its x) H := by
  refine ⟨fun i m ys H => m = x.cps.size - i ∧ i ≤ x.cps.size ∧ Pv i ys H, ⟨x.cps.size, by simp, Nat.zero_le _, h0⟩, ?_⟩
  rintro i m ys H ⟨rfl, hi, p⟩
  by_cases hlt : i < x.cps.size
  · refine .inr ⟨hlt, hz i ys H hlt p, fun v H' y => ?_⟩
    obtain ⟨e, c, hc, y⟩ := y
    subst e y
    exact hs i c ys _ (fun ys' H' => ∃ m', m' < x.cps.size - i ∧ (m' = x.cps.size - (i + 1) ∧ i + 1 ≤ x.cps.size ∧ Pv (i + 1) ys' H')) hc p fun ys' H' q => ⟨x.cps.size - (i + 1), by omega, rfl, hlt, q⟩
  · have e : i = x.cps.size := by omega
    subst e
    exact .inl ⟨rfl, fun pp hp => hd ys H pp p hp⟩
end
end L2

namespace L2
open PySem PySem.Spec PyProof.Rows
section
variable {X : Cx} {pos : Pos}
theorem op_le_str : OpR X (compareOp .LtE) (fun x y H Q => ∃ i j, x = .str i ∧ y = .str j ∧ Q (.bl (!(decide (j.cps.toList < i.cps.toList)))) H) := by
  intro pins s σ H x y v u Q I rx ry h
  obtain ⟨i, j, rfl, rfl, q⟩ := h
  obtain ⟨t, rfl⟩ := rx
  obtain ⟨t', rfl⟩ := ry
  exact PySem.P.le_str (fin_bl I q rfl)
theorem op_fdivL : OpR X (binaryOp .FloorDiv) (rI (fun _ j => 0 < j ∧ j.natAbs.log2 < 9000) fun i j => .int (i / j)) := opI fun i j _ _ _ _ _ hc q => by
  refine floordiv_int (by omega) ?_ (.inl (PyProof.noPylong_of_log2 hc.2))
  rw [Int.fdiv_eq_ediv_of_nonneg i (by omega)]
  exact q
theorem all_range : ∀ (bs : List Bool), (List.range bs.length).all (fun i => bs.getD i true) = bs.all fun b => b := by
  intro bs
  rw [Bool.eq_iff_iff, List.all_eq_true, List.all_eq_true]
  constructor
  · intro h b hb
    obtain ⟨i, hi, e⟩ := List.mem_iff_getElem.mp hb
    have := h i (List.mem_range.mpr hi)
    rw [List.getD_eq_getElem?_getD, List.getElem?_eq_getElem hi, e] at this
    exact this
  · intro h i hi
    have hi' : i < bs.length := List.mem_range.mp hi
    rw [List.getD_eq_getElem?_getD, List.getElem?_eq_getElem hi']
    exact h _ (List.getElem_mem hi')
theorem vals_bl : ∀ {bs : List Bool} {us : List Value}, Vals (bs.map V.bl) us → us = bs.map Value.bool
  | [], _, r => by cases r; rfl
  | b :: bs, _, r => by
    cases r with
    | cons r1 r2 =>
      have e : _ = Value.bool b := r1
      rw [e, vals_bl r2, List.map_cons]
theorem call_all_bl (hc : X.calm = true) : CallR X (.builtin "all") (fun xs H Q => ∃ (p : Addr) (bs : List Bool), xs = [.ref p] ∧ SqL X.K H p (bs.map V.bl) ∧ Q (.bl (bs.all fun b => b)) H) := by
  intro pins s σ H xs us Q I r h
  obtain ⟨p, bs, rfl, hq, q⟩ := h
  obtain ⟨u, rfl, rx⟩ := vals1 r
  cases rx
  obtain ⟨its, rv, pl, hz⟩ := I.list hq
  have hA : X.A.in1.handled = none := I.ok.hd hc
  have hp : p < s.heap.objs.size := by
    obtain ⟨o, n, e, _⟩ := pl
    exact Heap.lt_size e
  have eit := vals_bl rv
  refine call_all_walk (wpAny_pyIter_list pl.isList ?_)
  refine ⟨s.heap.objs.size, _, _, _, _, _, fun i => bs.getD i true, rfl, Walks.list hA _ p (Nat.ne_of_lt hp) its.toArray, ⟨⟨_, Heap.get?_push_size _ rfl, rfl, rfl⟩, pl.isList.at fun o e => Heap.get?_push_of_some _ e⟩, fun i v s' Q' E' hv hq' => ?_, fun h' tk kk => ?_⟩
  · have hv' : (bs.map Value.bool)[i]? = some v := by
      rw [← eit]
      simpa using hv
    rw [List.getElem?_map] at hv'
    cases eb : bs[i]? with
    | none => rw [eb] at hv'; cases hv'
    | some b =>
      rw [eb] at hv'
      have e2 : Value.bool b = v := Option.some.inj hv'
      rw [← e2]
      refine wpAny_truthy_bool ?_
      have e3 : bs.getD i true = b := by rw [List.getD_eq_getElem?_getD, eb]; rfl
      rw [← e3]
      exact hq'
  · have hsz : its.toArray.size = bs.length := by rw [List.size_toArray, eit, List.length_map]
    rw [hsz, all_range]
    have I1 : Inv X pins σ H { s with heap := s.heap.push { cls := .type "list_iterator", data := .fields #[.ref p, .int 0 0] } } := I.kept (t' := s.toks) fun b o e => Heap.get?_push_of_some _ e
    have fo := I.fpOk (H' := H) (Nat.le_refl _) (I.hok.fresh (Nat.le_refl _))
    obtain ⟨f0, f1, f2, f3, f4, f5⟩ := fo
    exact ⟨.bl _, H, I1.turned (it := s.heap.objs.size) (fun b o hb e => kk b o (by simpa using hb) e) f0 f1 f3 f4 f5, rfl, q⟩
theorem call_int_str : CallR X (.type "int") (fun xs H Q => ∃ x n, xs = [.str x] ∧ PySem.intText? x = some n ∧ x.length ≤ 640 ∧ Q (.int n) H) := by
  intro pins s σ H xs us Q I r h
  obtain ⟨x, n, rfl, hn, hl, q⟩ := h
  obtain ⟨u, rfl, t, rfl⟩ := vals1 r
  exact PySem.W.KIN.call_text hn hl ⟨.int n, H, I.tok _, ⟨_, rfl⟩, q⟩
/-- isinstance(x, T), T the name of a built-in type -/
theorem call_isi : CallR X (.builtin "isinstance") (fun xs H Q => ∃ x t n b, xs = [x, .ty n] ∧ TyOf X.K H x t ∧ PySem.W.kitOne X.K t (.type n) = some b ∧ Q (.bl b) H) := by
  intro pins s σ H xs us Q I r h
  obtain ⟨x, t, n, b, rfl, ty, e, q⟩ := h
  obtain ⟨u, w', rfl, rx, rt⟩ := vals2 r
  cases (show w' = Value.type n from rt)
  exact isinst_ok I rx ty e fun tk => ⟨.bl b, H, I.tok _, rfl, q⟩
theorem strsAre_of {ys : List Str} : ∀ {us : List Value}, Vals (ys.map V.str) us → StrsAre us ys := by
  induction ys with
  | nil => intro us r; rw [List.map_nil] at r; cases r; exact .nil
  | cons n ns ih =>
    intro us r
    rw [List.map_cons] at r
    cases r with
    | cons r1 r2 =>
      obtain ⟨t, e⟩ := r1
      subst e
      exact .cons n t (ih r2)
/-- sep.join(list of texts) -/
def rJoin (K : PySem.W.Frag) : V → List V → Hp → VK → Prop := fun x vs H Q => ∃ z p ys, x = .str z ∧ vs = [.ref p] ∧ SqL K H p (ys.map V.str) ∧ (ys.map (·.length)).sum + ys.length * z.length ≤ 16777216 ∧ Q (.str (Txt.join z ys)) H
theorem mt_join : MtR X "str.join" (rJoin X.K) := by
  intro pins s σ H x xs v us Q I rx rv h
  obtain ⟨z, p, ys, rfl, rfl, hq, hb, q⟩ := h
  obtain ⟨t, rfl⟩ := rx
  obtain ⟨u, rfl, r1⟩ := vals1 rv
  cases r1
  obtain ⟨its, rl, pl, hz⟩ := I.list hq
  exact join_list pl.isList (by simpa using strsAre_of rl) hb fun t' k => ⟨.str _, H, I.tok _, ⟨_, rfl⟩, q⟩
/-- s.index(t), t found -/
def rIndex : V → List V → Hp → VK → Prop := fun x vs H Q => ∃ z y, x = .str z ∧ vs = [.str y] ∧ 0 ≤ Txt.find z y ∧ Q (.int (Txt.find z y)) H
theorem mt_index (hc : X.calm = true) : MtR X "str.index" rIndex := by
  intro pins s σ H x xs v us Q I rx rv h
  obtain ⟨z, y, rfl, rfl, h0, q⟩ := h
  obtain ⟨t, rfl⟩ := rx
  obtain ⟨u, rfl, t', rfl⟩ := vals1 rv
  exact index_or (I.ok.hd hc) (fun e _ _ _ _ _ => by omega) fun _ _ => ⟨.int _, H, I.tok _, ⟨_, rfl⟩, q⟩
/-- a slice of a text -/
theorem sl_str : SlR X (fun x lo hi H Q => ∃ z, x = .str z ∧ z.length ≤ sizeLine ∧ Q (.str (Txt.slice z lo hi)) H) := by
  intro pins s σ H x v vl vu lo hi sl Q I rx hs pl pu h
  obtain ⟨z, rfl, hz, q⟩ := h
  obtain ⟨t, rfl⟩ := rx
  refine ⟨"str", _, F.slot_str_getitem.lookup, typeIs_str s z t, ?_⟩
  obtain ⟨o, ho, hc, hd⟩ := hs
  have part : ∀ {v : Value} {o : Option Int}, IsPart v o → ∃ l : Option (Int × Tok), v = partValue l ∧ o = l.map (·.1) := fun {v o} p => by
    cases p with
    | none => exact ⟨none, rfl, rfl⟩
    | int i t => exact ⟨some (i, t), rfl, rfl⟩
  obtain ⟨l, rfl, rfl⟩ := part pl
  obtain ⟨u, rfl, rfl⟩ := part pu
  refine wpAny_getItem_str_slice (l := l) (u := u) (st := none) ⟨o, ho, hc, hd⟩ rfl ?_
  have hle := PyProof.Txt.length_slice_le z (l.map (·.1)) (u.map (·.1))
  unfold sliceMade
  unfold Txt.slice at q hle
  have e1 : slicePicked z l u none = Builtin.Str.strSliceIndices (l.map (·.1)) (u.map (·.1)) 1 z.length := rfl
  have e2 : ((none : Option (Int × Tok)).map (·.1)).getD 1 = 1 := rfl
  rw [e1, e2]
  by_cases hb : ((1 : Int) == 1 && (Builtin.Str.strSliceIndices (l.map (·.1)) (u.map (·.1)) 1 z.length).length == z.length) = true
  · rw [if_pos hb] at q ⊢
    exact ⟨.str z, H, I, ⟨_, rfl⟩, q⟩
  · rw [if_neg hb] at q hle ⊢
    exact ⟨Nat.le_trans hle hz, ⟨.str _, H, I.tok _, ⟨_, rfl⟩, q⟩⟩
theorem rep_size (a : Array Nat) : ∀ (n : Nat) (b : Array Nat), ((List.replicate n a).foldl (· ++ ·) b).size = b.size + n * a.size
  | 0, b => by simp
  | n + 1, b => by
    rw [List.replicate_succ, List.foldl_cons, rep_size a n, Array.size_append, Nat.succ_mul]
    omega
/-- text * n: how long it is -/
theorem op_rep_str : OpR X (binaryOp .Mult) (fun x y H Q => ∃ z n, x = .str z ∧ y = .int n ∧ 0 ≤ n ∧ z.length * n.toNat ≤ 1000000 ∧ n < 2 ^ 40 ∧ ∀ r : Str, r.length = z.length * n.toNat → Q (.str r) H) := by
  intro pins s σ H x y v u Q I rx ry h
  obtain ⟨z, n, rfl, rfl, h0, hb, h40, q⟩ := h
  obtain ⟨t, rfl⟩ := rx
  obtain ⟨t', rfl⟩ := ry
  have hline : sizeLine = 16777216 := sizeLine_eq
  refine PySem.P.mul_str (by rw [decide_eq_false (by omega), decide_eq_false (by omega)]; rfl) (fun _ h1 => ?_) (fun _ _ => ?_) ?_
  · have hnb : z.length * n.toNat ≤ 1000000 := hb
    intro hgt
    have hn1 : 1 ≤ n := by omega
    have h3 := Int.mul_lt_of_lt_ediv (a := n) (b := (2 ^ 63 - 1)) (c := (z.length : Int))
    have h4 : (z.length : Int) * n ≤ 1000000 := by
      have : ((z.length * n.toNat : Nat) : Int) = (z.length : Int) * n := by
        rw [Int.natCast_mul, Int.toNat_of_nonneg h0]
      omega
    have h5 : ((2 ^ 63 - 1 : Int)) / n * n ≤ 2 ^ 63 - 1 := Int.ediv_mul_le _ (by omega)
    have h6 : (2 ^ 63 - 1 : Int) < ((2 ^ 63 - 1 : Int) / n + 1) * n := Int.lt_ediv_add_one_mul_self _ (by omega)
    have h7 : ((2 ^ 63 - 1 : Int) / n + 1) * n ≤ (z.length : Int) * n := Int.mul_le_mul_of_nonneg_right (by omega) (by omega)
    omega
  · unfold Builtin.Str.tooLong
    simp
    omega
  · by_cases c1 : n < 1
    · rw [if_pos c1]
      have e0 : n.toNat = 0 := by omega
      exact ⟨by decide, .str Str.empty, H, I.tok _, ⟨_, rfl⟩, q _ (by rw [e0]; rfl)⟩
    · rw [if_neg c1]
      by_cases c2 : (n == 1 || z.length == 0) = true
      · rw [if_pos c2]
        refine ⟨.str z, H, I, ⟨_, rfl⟩, q _ ?_⟩
        rw [Bool.or_eq_true, beq_iff_eq, beq_iff_eq] at c2
        rcases c2 with c2 | c2
        · subst c2; simp
        · rw [c2]; simp
      · rw [if_neg c2]
        have es : (⟨(List.replicate n.toNat z.cps).foldl (· ++ ·) #[]⟩ : Str).length = z.length * n.toNat := by
          show ((List.replicate n.toNat z.cps).foldl (· ++ ·) #[]).size = z.cps.size * n.toNat
          rw [rep_size, Nat.mul_comm]; simp
        exact ⟨by rw [es]; omega, .str _, H, I.tok _, ⟨_, rfl⟩, q _ es⟩
/-- the name of a built-in type -/
theorem pe_ty {x : Str} {n : String} {p : Pos} (hg : Gl X x) (hm : X.mg x = none) (hv : bootBuiltins x = some (.type n)) (hn : x ≠ "__name__" := by decide) (hd : (x == ("__debug__" : Str)) = false := by decide) : PE X (.Name x p) (tC (.ty n)) :=
  pe_bltn hg hm hv rfl hn hd
end
/-- isinstance among built-in types, without the text's own objects -/
def kitT (a b : String) : Option Bool := if (Value.type a == Value.type b) = true then some true else if PySem.W.kitMeta b = true then (fastBuiltinMro a).map (·.contains (.type b)) else none
theorem kit_ty {K : PySem.W.Frag} {a b : String} {r : Bool} (h : kitT a b = some r) : PySem.W.kitOne K (.type a) (.type b) = some r := h
theorem PE.imp {X : Cx} {e : Expr} {t t' : TE} (p : PE X e t) (f : ∀ σ H Q, t' σ H Q → t σ H Q) : PE X e t' := fun pins s σ H Q I h => p pins s σ H Q I (f σ H Q h)
theorem PT.imp {X : Cx} {e : Expr} {t t' : TT} (p : PT X e t) (f : ∀ σ H Q, t' σ H Q → t σ H Q) : PT X e t' := fun pins s σ H Q I h => p pins s σ H Q I (f σ H Q h)
theorem PS.imp {X : Cx} {e : Stmt} {t t' : TS} (p : PS X e t) (f : ∀ D σ H, t' D σ H → t D σ H) : PS X e t' := fun pins s σ H D I h => p pins s σ H D I (f D σ H h)
theorem PSs.imp {X : Cx} {e : List Stmt} {t t' : TS} (p : PSs X e t) (f : ∀ D σ H, t' D σ H → t D σ H) : PSs X e t' := fun pins s σ H D I h => p pins s σ H D I (f D σ H h)
/-- int(flag): by what it is -/
theorem b2 (c : Bool) : (if c = true then (1 : Int) else 0) = 0 ∨ (if c = true then (1 : Int) else 0) = 1 := by cases c <;> simp
end L2

namespace L2
open PySem PySem.Spec PyProof.Rows

/-! ### readings that simp can walk: one statement at a time, the heap by equations -/
/-- the rest of a block: simp stops here -/
def Go (u : TS) (D : Ends) (σ : St) (H : Hp) : Prop := u D σ H
/-- a loop, its iterator at hand -/
def LoopP (J : It) (g : TG) (tb : TS) (D : Ends) (σ : St) (H1 : Hp) : Prop := ∃ W : Nat → Nat → St → Hp → Prop, (∃ m, W 0 m σ H1) ∧ ∀ i m σ H, W i m σ H →
  (J.stop i H ∧ D.nx σ H) ∨ (J.go i H ∧ ∃ N : St → Hp → Prop, (∀ σ' H', N σ' H' → ∃ m', m' < m ∧ W (i + 1) m' σ' H') ∧ ∀ x H', J.yld i H x H' → g x σ H' fun σ2 H2 => tb { D with nx := N, ct := N, bk := D.nx } σ2 H2)
section
variable {t u : TS} {D : Ends} {σ : St} {H : Hp} {Q : VK} {te ta tb : TE} {tt ta' tb' : TT} {g : TG} {tA tr : TA}
theorem rSeq : tSeq t u D σ H = t { D with nx := fun σ' H' => Go u D σ' H' } σ H := rfl
theorem rAsg : tAsg te g D σ H = te σ H fun x H1 => g x σ H1 D.nx := rfl
theorem rName {i : Nat} {v : V} {R : St → Hp → Prop} : gName i v σ H R = R (σ.set i (some v)) H := rfl
theorem rVar {i : Nat} : tVar i σ H Q = ∃ v, σ[i]? = some (some v) ∧ Q v H := rfl
theorem rC {v : V} : tC v σ H Q = Q v H := rfl
theorem rOp {r : R2} : tOp r ta tb σ H Q = ta σ H fun x H1 => tb σ H1 fun y H2 => r x y H2 Q := rfl
theorem rUn {r : V → Hp → VK → Prop} : tUn r ta σ H Q = ta σ H fun x H1 => r x H1 Q := rfl
theorem rRU {f : Int → V} {i : Int} : rU f (.int i) H Q = Q (f i) H := propext ⟨fun ⟨_, e, q⟩ => by cases e; exact q, fun q => ⟨_, rfl, q⟩⟩
theorem rCB {r : List V → Hp → VK → Prop} : tCB r tA σ H Q = tA σ H fun vs H1 => r vs H1 Q := rfl
theorem rNil {R : List V → Hp → Prop} : tNil σ H R = R [] H := rfl
theorem rCons {R : List V → Hp → Prop} : tCons ta tr σ H R = ta σ H fun x H1 => tr σ H1 fun xs H2 => R (x :: xs) H2 := rfl
theorem rTest {R : Bool → Hp → Prop} : tTest te σ H R = te σ H fun x H' => ∃ k, x = .bl k ∧ R k H' := rfl
theorem rTB {R : Bool → Hp → Prop} : tB te σ H R = te σ H fun x H1 => ∃ c, x = .bl c ∧ R c H1 := rfl
theorem rTrue {R : Bool → Hp → Prop} : tTrue σ H R = R true H := rfl
theorem rNot {R : Bool → Hp → Prop} : tNot tt σ H R = tt σ H fun c H1 => R (!c) H1 := rfl
theorem rAnd {R : Bool → Hp → Prop} : tAnd ta' tb' σ H R = ta' σ H fun c H1 => if c = true then tb' σ H1 R else R false H1 := rfl
theorem rOr {R : Bool → Hp → Prop} : tOr ta' tb' σ H R = ta' σ H fun c H1 => if c = true then R true H1 else tb' σ H1 R := rfl
theorem rAndV : tAndV ta tb σ H Q = ta σ H fun x H1 => ∃ c, x = .bl c ∧ if c = true then tb σ H1 Q else Q (.bl false) H1 := rfl
theorem rOrV : tOrV ta tb σ H Q = ta σ H fun x H1 => ∃ c, x = .bl c ∧ if c = true then Q (.bl true) H1 else tb σ H1 Q := rfl
theorem rNotV : tNotV ta σ H Q = ta σ H fun x H1 => ∃ c, x = .bl c ∧ Q (.bl (!c)) H1 := rfl
theorem rIf : tIf tt ta tb σ H Q = tt σ H fun c H1 => if c = true then ta σ H1 Q else tb σ H1 Q := rfl
theorem rIfS {t u : TS} : tIfS tt t u D σ H = tt σ H fun b H1 => if b = true then t D σ H1 else u D σ H1 := rfl
theorem rRet : tRet te D σ H = te σ H D.rt := rfl
theorem rRetN : tRetN D σ H = D.rt .non H := rfl
theorem rNext : tNext D σ H = D.nx σ H := rfl
theorem rBreak : tBreak D σ H = D.bk σ H := rfl
theorem rCont : tCont D σ H = D.ct σ H := rfl
theorem rDrop : tDrop te D σ H = te σ H fun _ H1 => D.nx σ H1 := rfl
theorem rNever : tNever D σ H = False := rfl
theorem rFor {wi : TI} {tb : TS} : tFor wi g tb D σ H = wi σ H fun J H1 => LoopP J g tb D σ H1 := rfl
theorem rComp {k : Nat} {caps : List Nat} {wi : TI} : tComp k caps wi g tt te σ H Q = wi σ H (tCompK k caps g tt te σ Q) := rfl
theorem rCall {sp : Sp} {dvs : List V} {E : XK} : tCall sp dvs E tA σ H Q = tA σ H fun vs H1 => sp (vs ++ dvs) H1 Q E := rfl
theorem rTup : tTup tA σ H Q = tA σ H fun xs H1 => xs.length ≤ sizeLine ∧ ∀ p, H1 p = none → Q (.ref p) (upd H1 p (.tup xs)) := rfl
theorem rLst : tLst tA σ H Q = tA σ H fun xs H1 => xs.length ≤ sizeLine ∧ ∀ p, H1 p = none → Q (.ref p) (upd H1 p (.lst xs)) := rfl
theorem rGTup {K : PySem.W.Frag} {n : Nat} {gs : TGs} {v : V} {R : St → Hp → Prop} : gTup K n gs v σ H R = ∃ a xs, v = .ref a ∧ SqT K H a xs ∧ xs.length = n ∧ gs xs σ H R := rfl
theorem rGNil {vs : List V} {R : St → Hp → Prop} : gNil vs σ H R = (vs = [] ∧ R σ H) := rfl
theorem rGCons {gs : TGs} {vs : List V} {R : St → Hp → Prop} : gCons g gs vs σ H R = ∃ v r, vs = v :: r ∧ g v σ H fun σ' H' => gs r σ' H' R := rfl
theorem rGSub {to ti : TE} {ts : TSet} {v : V} {R : St → Hp → Prop} : gSub to ti ts v σ H R = to σ H fun o H1 => ti σ H1 fun i H2 => ts o i v H2 fun H3 => R σ H3 := rfl
theorem rI0' {f : Int → Int → V} {i j : Int} : rI0 f (.int i) (.int j) H Q = Q (f i j) H := propext ⟨fun ⟨_, _, e, e', q⟩ => by cases e; cases e'; exact q, fun q => ⟨_, _, rfl, rfl, q⟩⟩
theorem rI' {C : Int → Int → Prop} {f : Int → Int → V} {i j : Int} : rI C f (.int i) (.int j) H Q = (C i j ∧ Q (f i j) H) := propext ⟨fun ⟨_, _, e, e', q⟩ => by cases e; cases e'; exact q, fun q => ⟨_, _, rfl, rfl, q⟩⟩
end

/-! ### the heap by equations -/
theorem upd_old {H : Hp} {p a : Addr} {o : HO} (hp : H p = none) (ha : (H a).isSome = true) : upd H p o a = H a := upd_ne fun e => by subst e; rw [hp] at ha; cases ha
theorem Same.some {H H' : Hp} (s : Same H H') {a : Addr} {o : HO} (h : H a = some o) : H' a = some o := s a o h
theorem same_new {H : Hp} {p : Addr} (h : H p = none) (o : HO) : Same H (upd H p o) := fun b u q => by rw [upd_ne (ne_of_none q h)]; exact q
theorem small {n : Nat} (h : n ≤ 100000) : n ≤ sizeLine := Nat.le_trans h (by decide)
theorem small1 {n : Nat} (h : n ≤ 100000) : n < sizeLine := Nat.lt_of_le_of_lt h (by decide)
theorem mapInt_inj {xs ys : List Int} : (xs.map V.int = ys.map V.int) = (xs = ys) := propext ⟨fun h => (List.map_inj_right (fun _ _ e => V.int.inj e)).mp h, fun h => by rw [h]⟩
theorem mapStr_inj {xs ys : List Str} : (xs.map V.str = ys.map V.str) = (xs = ys) := propext ⟨fun h => (List.map_inj_right (fun _ _ e => V.str.inj e)).mp h, fun h => by rw [h]⟩
theorem mapBl_inj {xs ys : List Bool} : (xs.map V.bl = ys.map V.bl) = (xs = ys) := propext ⟨fun h => (List.map_inj_right (fun _ _ e => V.bl.inj e)).mp h, fun h => by rw [h]⟩
theorem atI_map {α β : Type} (f : α → β) (xs : List α) (i : Int) : atI (xs.map f) i = (atI xs i).map f := by
  unfold atI
  rw [List.length_map]
  cases ixN xs.length i with
  | none => rfl
  | some j => show (xs.map f)[j]? = (xs[j]?).map f; rw [List.getElem?_map]
theorem atI_in {α : Type} {xs : List α} {i : Int} (h0 : 0 ≤ i) (h : i < xs.length) : atI xs i = some (xs[i.toNat]'(by omega)) := by
  have e : ((i.toNat : Nat) : Int) = i := Int.toNat_of_nonneg h0
  have z := atI_nat (xs := xs) (j := i.toNat) (v := xs[i.toNat]'(by omega)) (List.getElem?_eq_getElem (by omega))
  rw [e] at z
  exact z

/-! ### rules for every kind at once -/
/-- what is read at a -/
def seqF (H : Hp) (a : Addr) : Option (List V) := match H a with
  | some (.lst xs) => some xs
  | some (.tup xs) => some xs
  | some (.frz _ (.lst xs)) => some xs
  | some (.frz _ (.tup xs)) => some xs
  | _ => none
theorem seqF_ok {K : PySem.W.Frag} {H : Hp} {a : Addr} {xs : List V} (h : seqF H a = some xs) : SqL K H a xs ∨ SqT K H a xs := by
  unfold seqF at h
  split at h
  case h_1 e => cases h; exact .inl (SqL.of e)
  case h_2 e => cases h; exact .inr (SqT.of e)
  case h_3 e => cases h; exact .inl (.inl (.inr ⟨_, e⟩))
  case h_4 e => cases h; exact .inr (.inl (.inr ⟨_, e⟩))
  case h_5 => cases h
theorem seqF_lst {H : Hp} {a : Addr} {xs : List V} (h : H a = some (.lst xs)) : seqF H a = some xs := by unfold seqF; rw [h]
theorem seqF_tup {H : Hp} {a : Addr} {xs : List V} (h : H a = some (.tup xs)) : seqF H a = some xs := by unfold seqF; rw [h]
def uAdd : V → V → Hp → VK → Prop
  | .int i, .int j, H, Q => Q (.int (i + j)) H
  | .str i, .str j, H, Q => i.length + j.length ≤ sizeLine ∧ Q (.str (i ++ j)) H
  | .ref a, .ref b, H, Q => ∃ xs zs, H a = some (.lst xs) ∧ H b = some (.lst zs) ∧ xs.length + zs.length ≤ sizeLine ∧ ∀ p, H p = none → Q (.ref p) (upd H p (.lst (xs ++ zs)))
  | _, _, _, _ => False
def uMul : V → V → Hp → VK → Prop
  | .int i, .int j, H, Q => CMul i j ∧ Q (.int (i * j)) H
  | .ref a, .int k, H, Q => ∃ xs, H a = some (.lst xs) ∧ -(2 ^ 63) ≤ k ∧ k < 2 ^ 63 ∧ xs.length * k.toNat ≤ sizeLine ∧ ∀ p, H p = none → Q (.ref p) (upd H p (.lst (List.replicate k.toNat xs).flatten))
  | _, _, _, _ => False
def uIx : V → V → Hp → VK → Prop
  | .ref a, y, H, Q => ∃ xs i v, seqF H a = some xs ∧ y = .int i ∧ atI xs i = some v ∧ Q v H
  | .str z, y, H, Q => ∃ i c, y = .int i ∧ z.length ≤ sizeLine ∧ atI z.cps.toList i = some c ∧ Q (.str ⟨#[c]⟩) H
  | _, _, _, _ => False
def uLen : List V → Hp → VK → Prop
  | [.str z], H, Q => z.length ≤ sizeLine ∧ Q (.int z.length) H
  | [.ref a], H, Q => ∃ ys, seqF H a = some ys ∧ Q (.int ys.length) H
  | _, _, _ => False
def uCut : V → Option Int → Option Int → Hp → VK → Prop
  | .ref a, lo, hi, H, Q => (∃ xs, H a = some (.lst xs) ∧ ∀ p, H p = none → Q (.ref p) (upd H p (.lst (cutV xs lo hi))))
  | .str z, lo, hi, H, Q => z.length ≤ sizeLine ∧ Q (.str (Txt.slice z lo hi)) H
  | _, _, _, _, _ => False
def uList : List V → Hp → VK → Prop
  | [.ref a], H, Q => ∃ ys, seqF H a = some ys ∧ ∀ l, H l = none → Q (.ref l) (upd H l (.lst ys))
  | _, _, _ => False
section
variable {X : Cx}
theorem u_add : OpR X (binaryOp .Add) uAdd := by
  intro pins s σ H x y v u Q I rx ry h
  unfold uAdd at h
  split at h
  · exact op_add pins s σ H _ _ v u Q I rx ry ⟨_, _, rfl, rfl, h⟩
  · exact op_add_str pins s σ H _ _ v u Q I rx ry ⟨_, _, rfl, rfl, h⟩
  · obtain ⟨xs, zs, h1, h2, h3, h4⟩ := h
    exact op_cat pins s σ H _ _ v u Q I rx ry ⟨_, _, _, _, rfl, rfl, h1, h2, h3, h4⟩
  · exact h.elim
theorem u_mul : OpR X (binaryOp .Mult) uMul := by
  intro pins s σ H x y v u Q I rx ry h
  unfold uMul at h
  split at h
  · exact op_mul pins s σ H _ _ v u Q I rx ry ⟨_, _, rfl, rfl, h⟩
  · obtain ⟨xs, h1, h2, h3, h4, h5⟩ := h
    exact op_rep pins s σ H _ _ v u Q I rx ry ⟨_, _, _, rfl, rfl, h1, h2, h3, h4, h5⟩
  · exact h.elim
theorem IxR.imp {r r' : R2} (h : IxR X r) (i : ∀ x y H Q, r' x y H Q → r x y H Q) : IxR X r' := fun value slice pins s σ H x y v u Q I rx ry q hs => h value slice pins s σ H x y v u Q I rx ry (i _ _ _ _ q) hs
theorem SlR.imp {r r' : V → Option Int → Option Int → Hp → VK → Prop} (h : SlR X r) (i : ∀ x lo hi H Q, r' x lo hi H Q → r x lo hi H Q) : SlR X r' := fun pins s σ H x v vl vu lo hi sl Q I rx hs pl pu q => h pins s σ H x v vl vu lo hi sl Q I rx hs pl pu (i _ _ _ _ _ q)
theorem OpR.imp {f : Value → Value → Sem Value} {r r' : R2} (h : OpR X f r) (i : ∀ x y H Q, r' x y H Q → r x y H Q) : OpR X f r' := fun pins s σ H x y v u Q I rx ry q => h pins s σ H x y v u Q I rx ry (i _ _ _ _ q)
theorem CallR.imp {f : Value} {r r' : List V → Hp → VK → Prop} (h : CallR X f r) (i : ∀ xs H Q, r' xs H Q → r xs H Q) : CallR X f r' := fun pins s σ H xs us Q I rs q => h pins s σ H xs us Q I rs (i _ _ _ q)
theorem u_ix : IxR X uIx := (ix_list.or (ix_tup.or ix_str)).imp fun x y H Q h => by
  unfold uIx at h
  split at h
  · obtain ⟨xs, i, w, h1, rfl, h2, q⟩ := h
    rcases seqF_ok (K := X.K) h1 with h1 | h1
    · exact .inl ⟨_, _, _, _, rfl, rfl, h1, h2, q⟩
    · exact .inr (.inl ⟨_, _, _, _, rfl, rfl, h1, h2, q⟩)
  · obtain ⟨i, c, rfl, h1, h2, q⟩ := h
    exact .inr (.inr ⟨_, _, _, rfl, rfl, h1, h2, q⟩)
  · exact h.elim
theorem u_len : CallR X (.builtin "len") uLen := by
  intro pins s σ H xs us Q I rs h
  unfold uLen at h
  split at h
  · exact call_len_str pins s σ H _ us Q I rs ⟨_, rfl, h⟩
  · obtain ⟨ys, h1, q⟩ := h
    exact call_len_seq pins s σ H _ us Q I rs ⟨_, _, rfl, seqF_ok h1, q⟩
  · exact h.elim
theorem u_cut : SlR X uCut := (sl_list.or sl_str).imp fun x lo hi H Q h => by
  unfold uCut at h
  split at h
  · obtain ⟨xs, h1, q⟩ := h
    exact .inl ⟨_, _, rfl, SqL.of h1, q⟩
  · exact .inr ⟨_, rfl, h⟩
  · exact h.elim
theorem u_list : CallR X (.type "list") uList := by
  intro pins s σ H xs us Q I rs h
  unfold uList at h
  split at h
  · obtain ⟨ys, h1, q⟩ := h
    exact call_list_of pins s σ H _ us Q I rs ⟨_, _, rfl, seqF_ok h1, q⟩
  · exact h.elim
end
end L2

namespace L2
open PySem PySem.Spec PyProof.Rows

/-! ### == of lists and tuples, to a depth -/
def eqAll (f : V → V → Option Bool) : List V → List V → Option Bool
  | [], [] => some true
  | x :: xs, y :: ys => match f x y, eqAll f xs ys with
    | some b, some c => some (b && c)
    | _, _ => none
  | _, _ => none
/-- two things that are told apart by their kinds or items: a list, a tuple -/
def eqSeq (f : V → V → Option Bool) (H : Hp) (a b : Addr) : Option Bool := match H a, H b with
  | some (.lst xs), some (.lst ys) => if xs.length = ys.length then eqAll f xs ys else some false
  | some (.tup xs), some (.tup ys) => if xs.length = ys.length then eqAll f xs ys else none
  | _, _ => none
/-- == of items -/
def eqF (H : Hp) : Nat → V → V → Option Bool
  | 0, x, y => if (flatV x && flatV y) = true then some (eqV x y) else match x, y with
    | .ref a, .ref b => if a = b then some true else none
    | _, _ => none
  | n + 1, x, y => if (flatV x && flatV y) = true then some (eqV x y) else match x, y with
    | .ref a, .ref b => if a = b then some true else eqSeq (eqF H n) H a b
    | _, _ => none
/-- == -/
def eqT (H : Hp) (n : Nat) (x y : V) : Option Bool := if scal x y = true then some (decide (x = y)) else match x, y with
  | .ref a, .ref b => eqSeq (eqF H n) H a b
  | _, _ => none
theorem eqAll_get {f : V → V → Option Bool} : ∀ {xs ys : List V} {b : Bool}, eqAll f xs ys = some b → xs.length = ys.length ∧ ∃ e : Nat → Bool, (∀ j x y, xs[j]? = some x → ys[j]? = some y → f x y = some (e j)) ∧ (List.range xs.length).all e = b
  | [], [], b, h => ⟨rfl, fun _ => true, fun j x y hx => by simp at hx, by cases h; rfl⟩
  | [], _ :: _, b, h => by cases h
  | _ :: _, [], b, h => by cases h
  | x :: xs, y :: ys, b, h => by
    unfold eqAll at h
    split at h
    · rename_i b1 c1 h1 h2
      cases h
      obtain ⟨hl, e, he, hall⟩ := eqAll_get h2
      refine ⟨by simp [hl], fun j => match j with | 0 => b1 | j + 1 => e j, fun j x' y' hx hy => ?_, ?_⟩
      · cases j with
        | zero =>
          have e1 : x = x' := by simpa using hx
          have e2 : y = y' := by simpa using hy
          rw [← e1, ← e2]; exact h1
        | succ j => exact he j x' y' (by simpa using hx) (by simpa using hy)
      · rw [List.length_cons, List.range_succ_eq_map, List.all_cons, List.all_map]
        rw [← hall]; rfl
    · cases h
section
variable {X : Cx} {pins : List (Addr × Obj)} {σ : St} {H : Hp} {s : Shared}
theorem eqSeq_ok (I : Inv X pins σ H s) {f : V → V → Option Bool} {A : Around} (hu : A.units < cLine) (hf : ∀ x y u v b, RelV x u → RelV y v → f x y = some b → SeqAt.EqAt A.in1 s u v b) {a b : Addr} {c : Bool} (h : eqSeq f H a b = some c) :
    SeqAt.RcAt A s (.ref a) (.ref b) c ∧ SeqAt.RcNeAt A s (.ref a) (.ref b) (!c) := by
  unfold eqSeq at h
  split at h
  · rename_i xs ys ha hb
    obtain ⟨its, r1, p1, z1⟩ := I.list (SqL.of ha)
    obtain ⟨its2, r2, p2, z2⟩ := I.list (SqL.of hb)
    have l1 := r1.length
    have l2 := r2.length
    split at h
    · rename_i hl
      obtain ⟨_, e, he, hall⟩ := eqAll_get h
      have hh : ∀ j (h1 : j < its.toArray.size) (h2 : j < its2.toArray.size), SeqAt.EqAt A.in1 s its.toArray[j] its2.toArray[j] (e j) := (fun j h1 h2 => by
        have h1' : j < its.length := by simpa using h1
        have h2' : j < its2.length := by simpa using h2
        have x1 : xs[j]? = some (xs[j]'(by omega)) := List.getElem?_eq_getElem _
        have y1 : ys[j]? = some (ys[j]'(by omega)) := List.getElem?_eq_getElem _
        obtain ⟨u, hu1, ru⟩ := r1.get x1
        obtain ⟨v, hv1, rv⟩ := r2.get y1
        have eu : its[j] = u := by rw [List.getElem?_eq_getElem h1'] at hu1; exact Option.some.inj hu1
        have ev : its2[j] = v := by rw [List.getElem?_eq_getElem h2'] at hv1; exact Option.some.inj hv1
        have := hf _ _ u v (e j) ru rv (he j _ _ x1 y1)
        simpa [eu, ev] using this)
      have e1 : (List.range its.toArray.size).all e = c := by rw [← hall]; simp [l1]
      rw [← e1]
      exact ⟨SeqAt.RcAt.lists p1.isList p2.isList (by simp; omega) hu hh, SeqAt.RcNeAt.lists p1.isList p2.isList (by simp; omega) hu hh⟩
    · rename_i hl
      cases h
      exact ⟨SeqAt.RcAt.lists_lengths p1.isList p2.isList (by simp; omega) hu, SeqAt.RcNeAt.lists_lengths p1.isList p2.isList (by simp; omega) hu⟩
  · rename_i xs ys ha hb
    obtain ⟨its, r1, p1, z1⟩ := I.tuple (SqT.of ha)
    obtain ⟨its2, r2, p2, z2⟩ := I.tuple (SqT.of hb)
    have l1 := r1.length
    have l2 := r2.length
    split at h
    · rename_i hl
      obtain ⟨_, e, he, hall⟩ := eqAll_get h
      have hh : ∀ j (h1 : j < its.toArray.size) (h2 : j < its2.toArray.size), SeqAt.EqAt A.in1 s its.toArray[j] its2.toArray[j] (e j) := (fun j h1 h2 => by
        have h1' : j < its.length := by simpa using h1
        have h2' : j < its2.length := by simpa using h2
        have x1 : xs[j]? = some (xs[j]'(by omega)) := List.getElem?_eq_getElem _
        have y1 : ys[j]? = some (ys[j]'(by omega)) := List.getElem?_eq_getElem _
        obtain ⟨u, hu1, ru⟩ := r1.get x1
        obtain ⟨v, hv1, rv⟩ := r2.get y1
        have eu : its[j] = u := by rw [List.getElem?_eq_getElem h1'] at hu1; exact Option.some.inj hu1
        have ev : its2[j] = v := by rw [List.getElem?_eq_getElem h2'] at hv1; exact Option.some.inj hv1
        have := hf _ _ u v (e j) ru rv (he j _ _ x1 y1)
        simpa [eu, ev] using this)
      have e1 : ((List.range (min its.toArray.size its2.toArray.size)).all e && its.toArray.size == its2.toArray.size) = c := by
        have : its.length = its2.length := by omega
        rw [← hall]; simp [l1, this]
      rw [← e1]
      exact ⟨SeqAt.RcAt.tuples p1 p2 hu hh, SeqAt.RcNeAt.tuples p1 p2 hu hh⟩
    · cases h
  · cases h
theorem eqF_ok (I : Inv X pins σ H s) : ∀ (n : Nat) (A : Around), A.units + n < cLine → ∀ x y u v b, RelV x u → RelV y v → eqF H n x y = some b → SeqAt.EqAt A s u v b
  | 0, A, hu, x, y, u, v, b, rx, ry, h => by
    unfold eqF at h
    split at h
    · rename_i hf
      rw [Bool.and_eq_true] at hf
      cases h
      exact eqAt_V rx ry hf.1 hf.2
    · split at h
      · cases rx
        cases ry
        split at h
        · rename_i e
          cases h
          subst e
          exact SeqAt.EqAt.same _
        · cases h
      · cases h
  | n + 1, A, hu, x, y, u, v, b, rx, ry, h => by
    unfold eqF at h
    split at h
    · rename_i hf
      rw [Bool.and_eq_true] at hf
      cases h
      exact eqAt_V rx ry hf.1 hf.2
    · split at h
      · rename_i a c
        cases rx
        cases ry
        split at h
        · rename_i e
          cases h
          subst e
          exact SeqAt.EqAt.same _
        · rename_i e
          refine SeqAt.EqAt.of_refs e (eqSeq_ok I (by omega) (fun x y u v b rx ry q => eqF_ok I n A.in1 (by show A.units + 1 + n < cLine; omega) x y u v b rx ry q) h).1
      · cases h
def uEq (n : Nat) : R2 := fun x y H Q => ∃ b, eqT H n x y = some b ∧ Q (.bl b) H
def uNe (n : Nat) : R2 := fun x y H Q => ∃ b, eqT H n x y = some b ∧ Q (.bl (!b)) H
theorem u_eq {n : Nat} (hu : X.A.units + 64 < cLine) (hn : n ≤ 40 := by decide) : OpR X (compareOp .Eq) (uEq n) := by
  intro pins s σ H x y v u Q I rx ry h
  obtain ⟨b, e, q⟩ := h
  unfold eqT at e
  split at e
  · rename_i hs
    cases e
    exact op_eq pins s σ H x y v u Q I rx ry ⟨hs, q⟩
  · split at e
    · cases rx
      cases ry
      exact (eqSeq_ok I (by omega) (fun x y u v b rx ry z => eqF_ok I n _ (by show X.A.units + 1 + n < cLine; omega) x y u v b rx ry z) e).1 _ _ _ _ ⟨.bl b, H, I, rfl, q⟩
    · cases e
theorem u_ne {n : Nat} (hu : X.A.units + 64 < cLine) (hn : n ≤ 40 := by decide) : OpR X (compareOp .NotEq) (uNe n) := by
  intro pins s σ H x y v u Q I rx ry h
  obtain ⟨b, e, q⟩ := h
  unfold eqT at e
  split at e
  · rename_i hs
    cases e
    exact op_ne pins s σ H x y v u Q I rx ry ⟨hs, q⟩
  · split at e
    · cases rx
      cases ry
      exact (eqSeq_ok I (by omega) (fun x y u v b rx ry z => eqF_ok I n _ (by show X.A.units + 1 + n < cLine; omega) x y u v b rx ry z) e).2 _ _ _ _ ⟨.bl (!b), H, I, rfl, q⟩
    · cases e
end
end L2

namespace L2
open PySem PySem.Spec PyProof.Rows

/-! ### isinstance with the built-in kinds -/
def knownTy : List String := ["NoneType", "bool", "int", "str", "list", "tuple", "dict"]
def isiB (T n : String) : Bool := T == n || (T == "bool" && n == "int")
theorem isiB_ok : ∀ T ∈ knownTy, ∀ n ∈ knownTy, kitT T n = some (isiB T n) := by decide +kernel
def tyH : Option HO → Option String
  | some (.lst _) => some "list"
  | some (.frz _ (.lst _)) => some "list"
  | some (.tup _) => some "tuple"
  | some (.dK _) => some "dict"
  | _ => none
/-- the kind of a value -/
def tyF (H : Hp) : V → Option String
  | .non => some "NoneType"
  | .bl _ => some "bool"
  | .int _ => some "int"
  | .str _ => some "str"
  | .ref a => tyH (H a)
  | _ => none
theorem tyF_ok {K : PySem.W.Frag} {H : Hp} {x : V} {T : String} (h : tyF H x = some T) : TyOf K H x (.type T) ∧ T ∈ knownTy := by
  cases x with
  | non => cases h; exact ⟨.non, by decide⟩
  | bl b => cases h; exact ⟨.bl b, by decide⟩
  | int b => cases h; exact ⟨.int b, by decide⟩
  | str b => cases h; exact ⟨.str b, by decide⟩
  | ref a =>
    have h : tyH (H a) = some T := h
    unfold tyH at h
    split at h
    · rename_i e; cases h; exact ⟨.lst e, by decide⟩
    · rename_i e; cases h; exact ⟨.frz e, by decide⟩
    · rename_i e; cases h; exact ⟨.tup e, by decide⟩
    · rename_i e; cases h; exact ⟨.dK e, by decide⟩
    · cases h
  | byt b => cases h
  | flt b => cases h
  | ty b => cases h
def knV : V → Bool
  | .ty n => knownTy.contains n
  | _ => false
def isiV (T : String) : V → Bool
  | .ty n => isiB T n
  | _ => false
theorem tys_of : ∀ (vs : List V), vs.all knV = true → ∃ ns : List String, vs = ns.map V.ty ∧ ∀ n ∈ ns, n ∈ knownTy
  | [], _ => ⟨[], rfl, fun n h => by cases h⟩
  | v :: vs, h => by
    rw [List.all_cons, Bool.and_eq_true] at h
    obtain ⟨ns, e, hn⟩ := tys_of vs h.2
    cases v with
    | ty n => exact ⟨n :: ns, by rw [e]; rfl, fun m hm => by
        rcases List.mem_cons.mp hm with rfl | hm
        · have : knownTy.contains m = true := h.1
          simpa using this
        · exact hn m hm⟩
    | _ => exact absurd (show false = true from h.1) Bool.false_ne_true
theorem any_isiV (T : String) (ns : List String) : (ns.map V.ty).any (isiV T) = ns.any fun n => isiB T n := by
  rw [List.any_map]; rfl
def uIsi : List V → Hp → VK → Prop
  | [x, .ty n], H, Q => ∃ T, tyF H x = some T ∧ knV (.ty n) = true ∧ Q (.bl (isiB T n)) H
  | [x, .ref tp], H, Q => ∃ (T : String) (vs : List V), tyF H x = some T ∧ H tp = some (.tup vs) ∧ vs.all knV = true ∧ Q (.bl (vs.any (isiV T))) H
  | _, _, _ => False
section
variable {X : Cx} {pins : List (Addr × Obj)} {σ : St} {H : Hp} {s : Shared}
theorem kitAny_of {K : PySem.W.Frag} {T : String} (hT : T ∈ knownTy) : ∀ {ns : List String}, (∀ n ∈ ns, n ∈ knownTy) → PySem.W.kitAny K (.type T) (ns.map Value.type) = some (ns.any fun n => isiB T n)
  | [], _ => rfl
  | n :: ns, h => by
    have h1 := isiB_ok T hT n (h n List.mem_cons_self)
    have e : PySem.W.kitOne K (.type T) (.type n) = some (isiB T n) := kit_ty h1
    show (match PySem.W.kitOne K (.type T) (.type n) with
      | some true => some true
      | some false => PySem.W.kitAny K (.type T) (ns.map Value.type)
      | none => none) = _
    rw [e, List.any_cons]
    cases isiB T n with
    | true => rfl
    | false => exact kitAny_of hT fun m hm => h m (List.mem_cons_of_mem _ hm)
theorem vals_ty : ∀ {ns : List String} {us : List Value}, Vals (ns.map V.ty) us → us = ns.map Value.type
  | [], _, r => by cases r; rfl
  | n :: ns, _, r => by
    rw [List.map_cons] at r
    cases r with
    | cons r1 r2 =>
      rw [vals_ty r2, List.map_cons]
      exact congrArg (· :: _) r1
theorem isi_tup {x : V} {u : Value} {T : String} {tp : Addr} {ns : List String} {A : Around} {E : Value → Shared → Prop} {Q : Value → Shared → Prop} (I : Inv X pins σ H s) (rx : RelV x u) (hx : tyF H x = some T) (htp : H tp = some (.tup (ns.map V.ty))) (hn : ∀ n ∈ ns, n ∈ knownTy)
    (h : ∀ tk, Q (.bool (ns.any fun n => isiB T n)) { s with toks := tk }) : wpAny (model X.prog X.w) A (call (.builtin "isinstance") [u, .ref tp]) Q E s := by
  obtain ⟨_, its, ri, o, ho, hc, n, hd⟩ := (show ObjOk X.prog X.w H s.heap tp (.tup (ns.map V.ty)) from I.hok tp _ htp)
  have ei := vals_ty ri
  subst ei
  obtain ⟨oc, od, odt, osl⟩ := o
  simp only at hc hd
  subst hc hd
  have e := kitAny_of (K := X.K) (tyF_ok (K := X.K) hx).2 hn
  cases x with
  | non => cases hx; cases (show u = Value.none from rx); exact PySem.W.kia_tup PySem.W.kitx_none I.kIn True.intro ho e (fun z => nomatch z) h
  | bl y => cases hx; cases (show u = Value.bool y from rx); exact PySem.W.kia_tup PySem.W.kitx_bool I.kIn True.intro ho e (fun z => nomatch z) h
  | int i => cases hx; obtain ⟨t, q⟩ := (show ∃ t, u = Value.int i t from rx); cases q; exact PySem.W.kia_tup PySem.W.kitx_int I.kIn True.intro ho e (fun z => nomatch z) h
  | str y => cases hx; obtain ⟨t, q⟩ := (show ∃ t, u = Value.str y t from rx); cases q; exact PySem.W.kia_tup PySem.W.kitx_str I.kIn True.intro ho e (fun z => nomatch z) h
  | ref a =>
    cases (show u = Value.ref a from rx)
    have hx : tyH (H a) = some T := hx
    unfold tyH at hx
    split at hx
    · rename_i ea
      cases hx
      obtain ⟨_, _, n, _, h1⟩ := I.hok a _ ea
      exact PySem.W.kia_tup PySem.W.kitx_list I.kIn ⟨_, h1, rfl⟩ ho e (fun z => nomatch z) h
    · rename_i ea
      cases hx
      obtain ⟨_, _, _, n, _, h1⟩ := I.hok a _ ea
      exact PySem.W.kia_tup PySem.W.kitx_list I.kIn ⟨_, h1, rfl⟩ ho e (fun z => nomatch z) h
    · rename_i ea
      cases hx
      obtain ⟨_, _, _, o', h1, h2, _⟩ := I.hok a _ ea
      exact PySem.W.kia_tup PySem.W.kitx_tuple I.kIn ⟨o', h1, h2⟩ ho e (fun z => nomatch z) h
    · rename_i ea
      cases hx
      obtain ⟨_, _, vs, _, o', es, ep, h1, h2, _⟩ := I.hok a _ ea
      exact PySem.W.kia_tup PySem.W.kitx_dict I.kIn ⟨o', h1, h2.1⟩ ho e (fun z => nomatch z) h
    · cases hx
  | byt b => cases hx
  | flt b => cases hx
  | ty b => cases hx
theorem u_isi : CallR X (.builtin "isinstance") uIsi := by
  intro pins s σ H xs us Q I r h
  unfold uIsi at h
  split at h
  · obtain ⟨T, h1, h2, q⟩ := h
    obtain ⟨ty, hT⟩ := tyF_ok (K := X.K) h1
    have h2 : knownTy.contains _ = true := h2
    exact call_isi pins s σ H _ us Q I r ⟨_, _, _, _, rfl, ty, kit_ty (isiB_ok T hT _ (by simpa using h2)), q⟩
  · obtain ⟨T, vs, h1, h2, h3, q⟩ := h
    obtain ⟨ns, rfl, h4⟩ := tys_of vs h3
    rw [any_isiV] at q
    obtain ⟨u, w', rfl, rx, rt⟩ := vals2 r
    cases rt
    exact isi_tup I rx h1 h2 h4 fun tk => ⟨.bl _, H, I.tok _, rfl, q⟩
  · exact h.elim

/-! ### in, min, max, abs, int -/
def uIn : V → V → Hp → VK → Prop
  | x, .ref a, H, Q => ∃ xs, seqF H a = some xs ∧ flatV x = true ∧ xs.all flatV = true ∧ Q (.bl (inV x xs)) H
  | x, .str j, H, Q => ∃ i, x = .str i ∧ Q (.bl (!(Builtin.Str.occurrences j i 0 j.length 1).isEmpty)) H
  | _, _, _, _ => False
def uNin : V → V → Hp → VK → Prop
  | x, .ref a, H, Q => ∃ xs, seqF H a = some xs ∧ flatV x = true ∧ xs.all flatV = true ∧ Q (.bl (!inV x xs)) H
  | x, .str j, H, Q => ∃ i, x = .str i ∧ Q (.bl (!(!(Builtin.Str.occurrences j i 0 j.length 1).isEmpty))) H
  | _, _, _, _ => False
theorem u_in : OpR X (compareOp .In) uIn := (op_in_seq.or op_in_str).imp fun x y H Q h => by
  unfold uIn at h
  split at h
  · obtain ⟨xs, h1, h2, h3, q⟩ := h
    exact .inl ⟨_, _, rfl, seqF_ok h1, h2, h3, q⟩
  · obtain ⟨i, rfl, q⟩ := h
    exact .inr ⟨_, _, rfl, rfl, q⟩
  · exact h.elim
theorem u_nin : OpR X (compareOp .NotIn) uNin := (op_notIn_seq.or op_notin_str).imp fun x y H Q h => by
  unfold uNin at h
  split at h
  · obtain ⟨xs, h1, h2, h3, q⟩ := h
    exact .inl ⟨_, _, rfl, seqF_ok h1, h2, h3, q⟩
  · obtain ⟨i, rfl, q⟩ := h
    exact .inr ⟨_, _, rfl, rfl, q⟩
  · exact h.elim
def uMax : List V → Hp → VK → Prop
  | [.int i, .int j], H, Q => Q (.int (max i j)) H
  | _, _, _ => False
def uMin : List V → Hp → VK → Prop
  | [.int i, .int j], H, Q => Q (.int (min i j)) H
  | _, _, _ => False
theorem u_max (hc : X.calm = true) : CallR X (.builtin "max") uMax := (call_max2 hc).imp fun xs H Q h => by
  unfold uMax at h
  split at h
  · rename_i i j
    refine ⟨_, _, rfl, ?_⟩
    have e : (if j > i then j else i) = max i j := by split <;> omega
    rw [e]; exact h
  · exact h.elim
theorem u_min (hc : X.calm = true) : CallR X (.builtin "min") uMin := (call_min2 hc).imp fun xs H Q h => by
  unfold uMin at h
  split at h
  · rename_i i j
    refine ⟨_, _, rfl, ?_⟩
    have e : (if j < i then j else i) = min i j := by split <;> omega
    rw [e]; exact h
  · exact h.elim
def uAbs : List V → Hp → VK → Prop
  | [.int i], H, Q => Q (.int (if i < 0 then -i else i)) H
  | _, _, _ => False
theorem u_abs : CallR X (.builtin "abs") uAbs := call_abs.imp fun xs H Q h => by
  unfold uAbs at h
  split at h
  · exact ⟨_, rfl, h⟩
  · exact h.elim
def uInt : List V → Hp → VK → Prop
  | [.int i], H, Q => Q (.int i) H
  | [.bl k], H, Q => Q (.int (if k then 1 else 0)) H
  | [.str x], H, Q => ∃ n, PySem.intText? x = some n ∧ x.length ≤ 640 ∧ Q (.int n) H
  | _, _, _ => False
theorem u_int : CallR X (.type "int") uInt := (call_int1.or call_int_str).imp fun xs H Q h => by
  unfold uInt at h
  split at h
  · exact .inl (.inl ⟨_, rfl, h⟩)
  · exact .inl (.inr ⟨_, rfl, h⟩)
  · obtain ⟨n, h1, h2, q⟩ := h
    exact .inr ⟨_, _, rfl, h1, h2, q⟩
  · exact h.elim
/-- all(list of truths) -/
def uAll : List V → Hp → VK → Prop
  | [.ref p], H, Q => ∃ bs, H p = some (.lst (List.map V.bl bs)) ∧ Q (.bl (bs.all fun b => b)) H
  | _, _, _ => False
theorem u_all (hc : X.calm = true) : CallR X (.builtin "all") uAll := (call_all_bl hc).imp fun xs H Q h => by
  unfold uAll at h
  split at h
  · obtain ⟨bs, h1, q⟩ := h
    exact ⟨_, _, rfl, SqL.of h1, q⟩
  · exact h.elim

/-! ### methods of lists, one reading each -/
def uApp : V → List V → Hp → VK → Prop
  | .ref l, [y], H, Q => ∃ xs, H l = some (.lst xs) ∧ xs.length < sizeLine ∧ Q .non (upd H l (.lst (xs ++ [y])))
  | _, _, _, _ => False
theorem MtM.imp {id : String} {r r' : V → List V → Hp → VK → Prop} (h : MtM X id r) (i : ∀ x vs H Q, r' x vs H Q → r x vs H Q) : MtM X id r' := fun pins s σ H x xs v us Q I rx rv q => h pins s σ H x xs v us Q I rx rv (i _ _ _ _ q)
theorem u_app : MtM X "list.append" uApp := mt_append.imp fun x vs H Q h => by
  unfold uApp at h
  split at h
  · obtain ⟨xs, h1, h2, q⟩ := h
    exact ⟨_, _, _, rfl, rfl, h1, h2, q⟩
  · exact h.elim
def uClear : V → List V → Hp → VK → Prop
  | .ref l, [], H, Q => ∃ xs, H l = some (.lst xs) ∧ Q .non (upd H l (.lst []))
  | _, _, _, _ => False
theorem u_clear : MtM X "list.clear" uClear := mt_clear.imp fun x vs H Q h => by
  unfold uClear at h
  split at h
  · obtain ⟨xs, h1, q⟩ := h
    exact ⟨_, _, rfl, rfl, h1, q⟩
  · exact h.elim
def uPop : V → List V → Hp → VK → Prop
  | .ref l, [], H, Q => ∃ xs y, H l = some (.lst xs) ∧ xs[xs.length - 1]? = some y ∧ Q y (upd H l (.lst xs.dropLast))
  | _, _, _, _ => False
theorem u_pop : MtM X "list.pop" uPop := mt_pop.imp fun x vs H Q h => by
  unfold uPop at h
  split at h
  · obtain ⟨xs, y, h1, h2, q⟩ := h
    exact ⟨_, _, _, rfl, rfl, h1, h2, q⟩
  · exact h.elim
def uRev : V → List V → Hp → VK → Prop
  | .ref l, [], H, Q => ∃ xs, H l = some (.lst xs) ∧ Q .non (upd H l (.lst xs.reverse))
  | _, _, _, _ => False
theorem u_rev : MtM X "list.reverse" uRev := mt_reverse.imp fun x vs H Q h => by
  unfold uRev at h
  split at h
  · obtain ⟨xs, h1, q⟩ := h
    exact ⟨_, _, rfl, rfl, h1, q⟩
  · exact h.elim
def uSetL : V → V → V → Hp → (Hp → Prop) → Prop
  | .ref p, .int k, v, H, Q => ∃ xs j, H p = some (.lst xs) ∧ ixN xs.length k = some j ∧ Q (upd H p (.lst (xs.set j v)))
  | _, _, _, _, _ => False
theorem u_setL : PSet X uSetL := fun pins s σ H o i v ov iv vv Q I r1 r2 r3 h => by
  unfold uSetL at h
  split at h
  · obtain ⟨xs, j, h1, h2, q⟩ := h
    exact set_list pins s σ H _ _ v ov iv vv Q I r1 r2 r3 ⟨_, _, _, _, rfl, rfl, h1, h2, q⟩
  · exact h.elim
/-- what a method of a list asks of its receiver -/
theorem tyV_lst {K : PySem.W.Frag} {a : Addr} {H : Hp} {xs : List V} (h : H a = some (.lst xs)) : tyV K "list" (.ref a) H := .inl ⟨rfl, _, SqL.of h⟩
/-- a list's method: the receiver is a list -/
def isL : Option HO → Prop
  | some (.lst _) => True
  | _ => False
def isLV (H : Hp) : V → Prop
  | .ref a => isL (H a)
  | _ => False
theorem isLst {K : PySem.W.Frag} {H : Hp} {x : V} (h : isLV H x) : tyV K "list" x H := by
  unfold isLV at h
  split at h
  · unfold isL at h
    split at h
    · rename_i e; exact tyV_lst e
    · exact h.elim
  · exact h.elim
def tLM (r : V → List V → Hp → VK → Prop) (to : TE) (t : TA) : TE := fun σ H Q => to σ H fun x H1 => isLV H1 x ∧ t σ H1 fun xs H2 => r x xs H2 Q
variable {o e : Expr} {es : List Expr} {to : TE} {t : TA} {name : Str} {apos cpos : Pos} {id : String} {r : V → List V → Hp → VK → Prop}

end
end L2

namespace L2
open PySem PySem.Spec PyProof.Rows

/-! ### loops by equations -/
theorem rTyL {K : PySem.W.Frag} {H : Hp} {a : Addr} (h : isL (H a)) : tyV K "list" (.ref a) H = True := eq_true (isLst (x := .ref a) h)
theorem rTyS {K : PySem.W.Frag} {H : Hp} {x : Str} : tyV K "str" (.str x) H = True := eq_true rfl
theorem exSqL {K : PySem.W.Frag} {H : Hp} {a : Addr} (h : isL (H a)) : (∃ xs, SqL K H a xs) = True := by
  unfold isL at h
  split at h
  · rename_i e; exact eq_true ⟨_, SqL.of e⟩
  · exact h.elim
theorem exMap {α β : Type} {f : α → β} {o : Option α} {R : β → Prop} : (∃ x, Option.map f o = some x ∧ R x) = ∃ a, o = some a ∧ R (f a) := propext ⟨fun ⟨x, e, r⟩ => by
    cases o with
    | none => cases e
    | some a => cases e; exact ⟨a, rfl, r⟩, fun ⟨a, e, r⟩ => ⟨f a, by rw [e]; rfl, r⟩⟩
/-! ### == of scalars -/
section
variable {H : Hp} {n : Nat} {i j : Int} {x y : Str} {b c : Bool}
theorem eqT_ii : eqT H n (.int i) (.int j) = some (decide (i = j)) := by
  have e : decide (V.int i = V.int j) = decide (i = j) := by simp
  show some (decide (V.int i = V.int j)) = _
  rw [e]
theorem eqT_ss : eqT H n (.str x) (.str y) = some (decide (x = y)) := by
  have e : decide (V.str x = V.str y) = decide (x = y) := by simp
  show some (decide (V.str x = V.str y)) = _
  rw [e]
theorem eqT_bb : eqT H n (.bl b) (.bl c) = some (decide (b = c)) := by
  have e : decide (V.bl b = V.bl c) = decide (b = c) := by simp
  show some (decide (V.bl b = V.bl c)) = _
  rw [e]
theorem eqT_nn : eqT H n .non .non = some true := rfl
theorem eqT_in : eqT H n (.int i) .non = some false := rfl
theorem eqT_ni : eqT H n .non (.int i) = some false := rfl
theorem eqT_sn : eqT H n (.str x) .non = some false := rfl
theorem eqT_ns : eqT H n .non (.str x) = some false := rfl
theorem eqT_is : eqT H n (.int i) (.str x) = some false := rfl
theorem eqT_si : eqT H n (.str x) (.int i) = some false := rfl
theorem eqT_rr {a d : Addr} : eqT H n (.ref a) (.ref d) = eqSeq (eqF H n) H a d := rfl
theorem eqF_ii : eqF H n (.int i) (.int j) = some (i == j) := by cases n <;> rfl
theorem eqF_ss : eqF H n (.str x) (.str y) = some (x == y) := by cases n <;> rfl
theorem eqF_rr {a : Addr} : eqF H n (.ref a) (.ref a) = some true := by cases n <;> simp [eqF, flatV]
theorem eqAll_ints {f : V → V → Option Bool} (hf : ∀ i j, f (.int i) (.int j) = some (i == j)) : ∀ (xs ys : List Int), xs.length = ys.length → eqAll f (xs.map V.int) (ys.map V.int) = some (decide (xs = ys))
  | [], [], _ => rfl
  | [], _ :: _, h => by cases h
  | _ :: _, [], h => by cases h
  | x :: xs, y :: ys, h => by
    have ih := eqAll_ints hf xs ys (by simpa using h)
    show (match f (.int x) (.int y), eqAll f (xs.map V.int) (ys.map V.int) with | some b, some c => some (b && c) | _, _ => none) = _
    rw [hf, ih]
    show some ((x == y) && decide (xs = ys)) = some (decide (x :: xs = y :: ys))
    congr 1
    rw [Bool.eq_iff_iff]
    simp
theorem eqAll_same {f : V → V → Option Bool} : ∀ (xs : List V), (∀ x ∈ xs, f x x = some true) → eqAll f xs xs = some true
  | [], _ => rfl
  | x :: xs, h => by
    show (match f x x, eqAll f xs xs with | some b, some c => some (b && c) | _, _ => none) = _
    rw [h x List.mem_cons_self, eqAll_same xs fun y hy => h y (List.mem_cons_of_mem _ hy)]; rfl
/-- two lists of ints -/
theorem eqT_lists {a d : Addr} {xs ys : List Int} (ha : H a = some (.lst (xs.map V.int))) (hd : H d = some (.lst (ys.map V.int))) : eqT H n (.ref a) (.ref d) = some (decide (xs = ys)) := by
  rw [eqT_rr]
  unfold eqSeq
  rw [ha, hd]
  simp only [List.length_map]
  split
  · rename_i h; exact eqAll_ints (fun i j => eqF_ii) xs ys h
  · rename_i h
    rw [decide_eq_false]
    intro e; exact h (by rw [e])
theorem eqT_tups {a d : Addr} {xs ys : List Int} (ha : H a = some (.tup (xs.map V.int))) (hd : H d = some (.tup (ys.map V.int))) (h : xs.length = ys.length) : eqT H n (.ref a) (.ref d) = some (decide (xs = ys)) := by
  rw [eqT_rr]
  unfold eqSeq
  rw [ha, hd]
  simp only [List.length_map, h, if_true]
  exact eqAll_ints (fun i j => eqF_ii) xs ys h
/-- two lists of the same things -/
theorem eqT_alike {a d : Addr} {xs : List V} (ha : H a = some (.lst xs)) (hd : H d = some (.lst xs)) (h : ∀ x ∈ xs, eqF H n x x = some true) : eqT H n (.ref a) (.ref d) = some true := by
  rw [eqT_rr]
  unfold eqSeq
  rw [ha, hd]
  simp only [if_true]
  exact eqAll_same xs h
end
/-! ### a statement whose ways meet behind it -/
def tSeqM (t u : TS) : TS := fun D σ H => ∃ M : St → Hp → Prop, t { D with nx := M } σ H ∧ ∀ σ' H', M σ' H' → Go u D σ' H'
theorem pss_consM {X : Cx} {st : Stmt} {rest : List Stmt} {t u : TS} (h1 : PS X st t) (h2 : PSs X rest u) : PSs X (st :: rest) (tSeqM t u) := by
  intro pins s σ H D I h
  obtain ⟨M, h, hM⟩ := h
  refine wpAny_execs_cons (thn (h1 pins s σ H _ I h) fun f s1 q => ?_)
  cases f with
  | next =>
    obtain ⟨σ', H', I', q⟩ := q
    exact h2 pins s1 σ' H' D I' (hM σ' H' q)
  | brk => exact q
  | cont => exact q
  | ret u => exact q
theorem seqM_go {t u : TS} {D : Ends} {σ : St} {H : Hp} (h : t { D with nx := fun σ' H' => Go u D σ' H' } σ H) : tSeqM t u D σ H := ⟨_, h, fun _ _ q => q⟩
section
variable {D : Ends} {σ : St} {H : Hp} {g : TG} {tA : TA} {tl : TE} {R : It → Hp → Prop} {K : PySem.W.Frag} {tb : TS}
theorem rBM {T : String} {r : V → List V → Hp → VK → Prop} {Q : VK} : tBM K T r tl tA σ H Q = tl σ H fun x H1 => tyV K T x H1 ∧ tA σ H1 fun xs H2 => r x xs H2 Q := rfl
theorem rBM0 {T : String} {r : V → List V → Hp → VK → Prop} {Q : VK} : tBM0 K T r tl σ H Q = tl σ H fun x H1 => tyV K T x H1 ∧ r x [] H1 Q := rfl
theorem rSl {r : V → Option Int → Option Int → Hp → VK → Prop} {t1 t2 : TO} {Q : VK} : tSl r tl t1 t2 σ H Q = tl σ H fun x H1 => t1 σ H1 fun l H2 => t2 σ H2 fun u H3 => r x l u H3 Q := rfl
theorem rNoPart {S : Option Int → Hp → Prop} : tNoPart σ H S = S none H := rfl
theorem rPart {S : Option Int → Hp → Prop} : tPart tl σ H S = tl σ H fun x H1 => ∃ i, x = .int i ∧ S (some i) H1 := rfl
theorem rIList : iList K tl σ H R = tl σ H fun x H1 => ∃ a, x = .ref a ∧ (∃ xs, SqL K H1 a xs) ∧ R (Itl K a) H1 := rfl
theorem rITup : iTup K tl σ H R = tl σ H fun x H1 => ∃ a, x = .ref a ∧ (∃ xs, SqT K H1 a xs) ∧ R (Itt K a) H1 := rfl
theorem rIRng1 : iRng1 tA σ H R = tA σ H fun vs H1 => ∃ j : Int, vs = [.int j] ∧ -(2 ^ 62) ≤ j ∧ j < 2 ^ 62 ∧ R (Itr 0 j.toNat) H1 := rfl
theorem rIEnum : iEnum K tA σ H R = tA σ H fun vs H1 => ∃ a, vs = [.ref a] ∧ (∃ xs, SqL K H1 a xs) ∧ R (Ite K a) H1 := rfl
theorem rIStr : iStr tl σ H R = tl σ H fun x H1 => ∃ z, x = .str z ∧ R (Its z) H1 := rfl
/-- a tuple of targets, the value a tuple at an address -/
def gTupF (n : Nat) (t : TGs) : TG := fun v σ H Q => ∃ a xs, v = .ref a ∧ H a = some (.tup xs) ∧ xs.length = n ∧ t xs σ H Q
theorem rGTupF {n : Nat} {gs : TGs} {v : V} {S : St → Hp → Prop} : gTupF n gs v σ H S = ∃ a xs, v = .ref a ∧ H a = some (.tup xs) ∧ xs.length = n ∧ gs xs σ H S := rfl
theorem PG.imp {X : Cx} {e : Expr} {t t' : TG} (p : PG X e t) (f : ∀ v σ H Q, t' v σ H Q → t v σ H Q) : PG X e t' := fun pins s σ H x v Q I r h => p pins s σ H x v Q I r (f _ _ _ _ h)
theorem pg_tupF {X : Cx} {es : List Expr} {k : Nat} {t : TGs} {n : Nat} {pos : Pos} (h : PG X (.Tuple es k pos) (gTup X.K n t)) : PG X (.Tuple es k pos) (gTupF n t) := h.imp fun v σ H Q ⟨a, xs, e, ha, hl, q⟩ => ⟨a, xs, e, SqT.of ha, hl, q⟩
theorem loop_list {a : Addr} {xs : List V} (Pv : Nat → St → Hp → Prop) (h0 : Pv 0 σ H) (hl : ∀ i σ H, i ≤ xs.length → Pv i σ H → H a = some (.lst xs))
    (hs : ∀ i x σ H, xs[i]? = some x → Pv i σ H → g x σ H fun σ2 H2 => tb { D with nx := Pv (i + 1), ct := Pv (i + 1), bk := D.nx } σ2 H2) (hd : ∀ σ H, Pv xs.length σ H → D.nx σ H) : LoopP (Itl K a) g tb D σ H :=
  for_list Pv h0 (fun i σ H hi p => SqL.of (hl i σ H hi p)) hs hd
theorem loop_tup {a : Addr} {xs : List V} (Pv : Nat → St → Hp → Prop) (h0 : Pv 0 σ H) (hl : ∀ i σ H, i ≤ xs.length → Pv i σ H → H a = some (.tup xs))
    (hs : ∀ i x σ H, xs[i]? = some x → Pv i σ H → g x σ H fun σ2 H2 => tb { D with nx := Pv (i + 1), ct := Pv (i + 1), bk := D.nx } σ2 H2) (hd : ∀ σ H, Pv xs.length σ H → D.nx σ H) : LoopP (Itt K a) g tb D σ H :=
  for_tup Pv h0 (fun i σ H hi p => SqT.of (hl i σ H hi p)) hs hd
theorem loop_range {lo : Int} {n : Nat} (Pv : Nat → St → Hp → Prop) (h0 : Pv 0 σ H)
    (hs : ∀ i σ H, i < n → Pv i σ H → g (.int (lo + i)) σ H fun σ2 H2 => tb { D with nx := Pv (i + 1), ct := Pv (i + 1), bk := D.nx } σ2 H2) (hd : ∀ σ H, Pv n σ H → D.nx σ H) : LoopP (Itr lo n) g tb D σ H :=
  for_range Pv h0 hs hd
theorem loop_enum {a : Addr} {xs : List V} (Pv : Nat → St → Hp → Prop) (h0 : Pv 0 σ H) (hl : ∀ i σ H, i ≤ xs.length → Pv i σ H → H a = some (.lst xs))
    (hs : ∀ i x σ H p, xs[i]? = some x → Pv i σ H → H p = none → g (.ref p) σ (upd H p (.tup [.int (i : Nat), x])) fun σ2 H2 => tb { D with nx := Pv (i + 1), ct := Pv (i + 1), bk := D.nx } σ2 H2) (hd : ∀ σ H, Pv xs.length σ H → D.nx σ H) : LoopP (Ite K a) g tb D σ H :=
  for_enum Pv h0 (fun i σ H hi p => SqL.of (hl i σ H hi p)) hs hd
theorem loop_str {x : Str} (Pv : Nat → St → Hp → Prop) (h0 : Pv 0 σ H)
    (hs : ∀ i c σ H, x.cps[i]? = some c → Pv i σ H → g (.str ⟨#[c]⟩) σ H fun σ2 H2 => tb { D with nx := Pv (i + 1), ct := Pv (i + 1), bk := D.nx } σ2 H2) (hd : ∀ σ H, Pv x.cps.size σ H → D.nx σ H) : LoopP (Its x) g tb D σ H :=
  for_str Pv h0 hs hd
/-- over a list, in a comprehension -/
theorem comp_list {a : Addr} {xs : List V} {Q : VK} {k : Nat} {caps : List Nat} {tt : TT} {te : TE} (Pv : Nat → List V → Hp → Prop) (h0 : Pv 0 [] H) (hl : ∀ i ys H, i ≤ xs.length → Pv i ys H → H a = some (.lst xs) ∧ ys.length ≤ i) (hz : xs.length ≤ 100000)
    (hs : ∀ i x ys H (N : List V → Hp → Prop), xs[i]? = some x → Pv i ys H → (∀ ys' H', Pv (i + 1) ys' H' → N ys' H') → g x (capS k caps σ) H fun σ2 H2 => tt σ2 H2 fun b H3 => if b = true then te σ2 H3 fun v H4 => N (ys ++ [v]) H4 else N ys H3)
    (hd : ∀ ys H p, Pv xs.length ys H → H p = none → Q (.ref p) (upd H p (.lst ys))) :
    tCompK k caps g tt te σ Q (Itl K a) H := by
  refine ⟨fun i m ys H => m = xs.length - i ∧ i ≤ xs.length ∧ Pv i ys H, ⟨xs.length, by simp, Nat.zero_le _, h0⟩, ?_⟩
  rintro i m ys H ⟨rfl, hi, p⟩
  obtain ⟨q, ql⟩ := hl i ys H hi p
  by_cases hlt : i < xs.length
  · refine .inr ⟨⟨xs, xs[i], SqL.of q, by simp [hlt]⟩, small1 (by omega), fun x H' y => ?_⟩
    obtain ⟨e, y⟩ := y
    subst e
    exact hs i x ys _ (fun ys' H' => ∃ m', m' < xs.length - i ∧ (m' = xs.length - (i + 1) ∧ i + 1 ≤ xs.length ∧ Pv (i + 1) ys' H')) (y xs (SqL.of q)) p fun ys' H' z => ⟨xs.length - (i + 1), by omega, rfl, hlt, z⟩
  · have e : i = xs.length := by omega
    subst e
    exact .inl ⟨⟨xs, SqL.of q, Nat.le_refl _⟩, fun pp hp => hd ys H pp p hp⟩
theorem comp_tup {a : Addr} {xs : List V} {Q : VK} {k : Nat} {caps : List Nat} {tt : TT} {te : TE} (Pv : Nat → List V → Hp → Prop) (h0 : Pv 0 [] H) (hl : ∀ i ys H, i ≤ xs.length → Pv i ys H → H a = some (.tup xs) ∧ ys.length ≤ i) (hz : xs.length ≤ 100000)
    (hs : ∀ i x ys H (N : List V → Hp → Prop), xs[i]? = some x → Pv i ys H → (∀ ys' H', Pv (i + 1) ys' H' → N ys' H') → g x (capS k caps σ) H fun σ2 H2 => tt σ2 H2 fun b H3 => if b = true then te σ2 H3 fun v H4 => N (ys ++ [v]) H4 else N ys H3)
    (hd : ∀ ys H p, Pv xs.length ys H → H p = none → Q (.ref p) (upd H p (.lst ys))) :
    tCompK k caps g tt te σ Q (Itt K a) H := by
  refine ⟨fun i m ys H => m = xs.length - i ∧ i ≤ xs.length ∧ Pv i ys H, ⟨xs.length, by simp, Nat.zero_le _, h0⟩, ?_⟩
  rintro i m ys H ⟨rfl, hi, p⟩
  obtain ⟨q, ql⟩ := hl i ys H hi p
  by_cases hlt : i < xs.length
  · refine .inr ⟨⟨xs, xs[i], SqT.of q, by simp [hlt]⟩, small1 (by omega), fun x H' y => ?_⟩
    obtain ⟨e, y⟩ := y
    subst e
    exact hs i x ys _ (fun ys' H' => ∃ m', m' < xs.length - i ∧ (m' = xs.length - (i + 1) ∧ i + 1 ≤ xs.length ∧ Pv (i + 1) ys' H')) (y xs (SqT.of q)) p fun ys' H' z => ⟨xs.length - (i + 1), by omega, rfl, hlt, z⟩
  · have e : i = xs.length := by omega
    subst e
    exact .inl ⟨⟨xs, SqT.of q, Nat.le_refl _⟩, fun pp hp => hd ys H pp p hp⟩
end
end L2

namespace L2
open PySem PySem.Spec PyProof.Rows
theorem uAdd_0 {i : Int} {j : Int} {H : Hp} {Q : VK} : uAdd (.int i) (.int j) H Q = (Q (.int (i + j)) H) := rfl
theorem uAdd_1 {i : Str} {j : Str} {H : Hp} {Q : VK} : uAdd (.str i) (.str j) H Q = (i.length + j.length ≤ sizeLine ∧ Q (.str (i ++ j)) H) := rfl
theorem uAdd_2 {a : Addr} {b : Addr} {H : Hp} {Q : VK} : uAdd (.ref a) (.ref b) H Q = (∃ xs zs, H a = some (.lst xs) ∧ H b = some (.lst zs) ∧ xs.length + zs.length ≤ sizeLine ∧ ∀ p, H p = none → Q (.ref p) (upd H p (.lst (xs ++ zs)))) := rfl
theorem uMul_0 {i : Int} {j : Int} {H : Hp} {Q : VK} : uMul (.int i) (.int j) H Q = (CMul i j ∧ Q (.int (i * j)) H) := rfl
theorem uMul_1 {a : Addr} {k : Int} {H : Hp} {Q : VK} : uMul (.ref a) (.int k) H Q = (∃ xs, H a = some (.lst xs) ∧ -(2 ^ 63) ≤ k ∧ k < 2 ^ 63 ∧ xs.length * k.toNat ≤ sizeLine ∧ ∀ p, H p = none → Q (.ref p) (upd H p (.lst (List.replicate k.toNat xs).flatten))) := rfl
theorem uIx_0 {a : Addr} {y : V} {H : Hp} {Q : VK} : uIx (.ref a) y H Q = (∃ xs i v, seqF H a = some xs ∧ y = .int i ∧ atI xs i = some v ∧ Q v H) := rfl
theorem uIx_1 {z : Str} {y : V} {H : Hp} {Q : VK} : uIx (.str z) y H Q = (∃ i c, y = .int i ∧ z.length ≤ sizeLine ∧ atI z.cps.toList i = some c ∧ Q (.str ⟨#[c]⟩) H) := rfl
theorem uLen_0 {z : Str} {H : Hp} {Q : VK} : uLen [.str z] H Q = (z.length ≤ sizeLine ∧ Q (.int z.length) H) := rfl
theorem uLen_1 {a : Addr} {H : Hp} {Q : VK} : uLen [.ref a] H Q = (∃ ys, seqF H a = some ys ∧ Q (.int ys.length) H) := rfl
theorem uCut_0 {a : Addr} {lo : Option Int} {hi : Option Int} {H : Hp} {Q : VK} : uCut (.ref a) lo hi H Q = ((∃ xs, H a = some (.lst xs) ∧ ∀ p, H p = none → Q (.ref p) (upd H p (.lst (cutV xs lo hi))))) := rfl
theorem uCut_1 {z : Str} {lo : Option Int} {hi : Option Int} {H : Hp} {Q : VK} : uCut (.str z) lo hi H Q = (z.length ≤ sizeLine ∧ Q (.str (Txt.slice z lo hi)) H) := rfl
theorem uList_0 {a : Addr} {H : Hp} {Q : VK} : uList [.ref a] H Q = (∃ ys, seqF H a = some ys ∧ ∀ l, H l = none → Q (.ref l) (upd H l (.lst ys))) := rfl
theorem uIsi_0 {x : V} {n : String} {H : Hp} {Q : VK} : uIsi [x, .ty n] H Q = (∃ T, tyF H x = some T ∧ knV (.ty n) = true ∧ Q (.bl (isiB T n)) H) := rfl
theorem uIsi_1 {x : V} {tp : Addr} {H : Hp} {Q : VK} : uIsi [x, .ref tp] H Q = (∃ (T : String) (vs : List V), tyF H x = some T ∧ H tp = some (.tup vs) ∧ vs.all knV = true ∧ Q (.bl (vs.any (isiV T))) H) := rfl
theorem uIn_0 {x : V} {a : Addr} {H : Hp} {Q : VK} : uIn x (.ref a) H Q = (∃ xs, seqF H a = some xs ∧ flatV x = true ∧ xs.all flatV = true ∧ Q (.bl (inV x xs)) H) := rfl
theorem uIn_1 {x : V} {j : Str} {H : Hp} {Q : VK} : uIn x (.str j) H Q = (∃ i, x = .str i ∧ Q (.bl (!(Builtin.Str.occurrences j i 0 j.length 1).isEmpty)) H) := rfl
theorem uNin_0 {x : V} {a : Addr} {H : Hp} {Q : VK} : uNin x (.ref a) H Q = (∃ xs, seqF H a = some xs ∧ flatV x = true ∧ xs.all flatV = true ∧ Q (.bl (!inV x xs)) H) := rfl
theorem uNin_1 {x : V} {j : Str} {H : Hp} {Q : VK} : uNin x (.str j) H Q = (∃ i, x = .str i ∧ Q (.bl (!(!(Builtin.Str.occurrences j i 0 j.length 1).isEmpty))) H) := rfl
theorem uMax_0 {i : Int} {j : Int} {H : Hp} {Q : VK} : uMax [.int i, .int j] H Q = (Q (.int (max i j)) H) := rfl
theorem uMin_0 {i : Int} {j : Int} {H : Hp} {Q : VK} : uMin [.int i, .int j] H Q = (Q (.int (min i j)) H) := rfl
theorem uAbs_0 {i : Int} {H : Hp} {Q : VK} : uAbs [.int i] H Q = (Q (.int (if i < 0 then -i else i)) H) := rfl
theorem uInt_0 {i : Int} {H : Hp} {Q : VK} : uInt [.int i] H Q = (Q (.int i) H) := rfl
theorem uInt_1 {k : Bool} {H : Hp} {Q : VK} : uInt [.bl k] H Q = (Q (.int (if k then 1 else 0)) H) := rfl
theorem uInt_2 {x : Str} {H : Hp} {Q : VK} : uInt [.str x] H Q = (∃ n, PySem.intText? x = some n ∧ x.length ≤ 640 ∧ Q (.int n) H) := rfl
theorem uAll_0 {p : Addr} {H : Hp} {Q : VK} : uAll [.ref p] H Q = (∃ bs, H p = some (.lst (List.map V.bl bs)) ∧ Q (.bl (bs.all fun b => b)) H) := rfl
theorem uApp_0 {l : Addr} {y : V} {H : Hp} {Q : VK} : uApp (.ref l) [y] H Q = (∃ xs, H l = some (.lst xs) ∧ xs.length < sizeLine ∧ Q .non (upd H l (.lst (xs ++ [y])))) := rfl
theorem uClear_0 {l : Addr} {H : Hp} {Q : VK} : uClear (.ref l) [] H Q = (∃ xs, H l = some (.lst xs) ∧ Q .non (upd H l (.lst []))) := rfl
theorem uPop_0 {l : Addr} {H : Hp} {Q : VK} : uPop (.ref l) [] H Q = (∃ xs y, H l = some (.lst xs) ∧ xs[xs.length - 1]? = some y ∧ Q y (upd H l (.lst xs.dropLast))) := rfl
theorem uRev_0 {l : Addr} {H : Hp} {Q : VK} : uRev (.ref l) [] H Q = (∃ xs, H l = some (.lst xs) ∧ Q .non (upd H l (.lst xs.reverse))) := rfl
theorem uSetL_0 {p : Addr} {k : Int} {v : V} {H : Hp} {Q : Hp → Prop} : uSetL (.ref p) (.int k) v H Q = (∃ xs j, H p = some (.lst xs) ∧ ixN xs.length k = some j ∧ Q (upd H p (.lst (xs.set j v)))) := rfl
def seqO : Option HO → Option (List V)
  | some (.lst xs) => some xs
  | some (.tup xs) => some xs
  | some (.frz _ (.lst xs)) => some xs
  | some (.frz _ (.tup xs)) => some xs
  | _ => none
theorem seqF_eq {H : Hp} {a : Addr} : seqF H a = seqO (H a) := rfl
theorem seqO_l {xs : List V} : seqO (some (.lst xs)) = some xs := rfl
theorem seqO_t {xs : List V} : seqO (some (.tup xs)) = some xs := rfl
theorem seqO_f {o : Obj} {xs : List V} : seqO (some (.frz o (.lst xs))) = some xs := rfl
theorem isL_l {xs : List V} : isL (some (.lst xs)) = True := rfl
theorem rUEq {n : Nat} {x y : V} {H : Hp} {Q : VK} : uEq n x y H Q = ∃ b, eqT H n x y = some b ∧ Q (.bl b) H := rfl
theorem rUNe {n : Nat} {x y : V} {H : Hp} {Q : VK} : uNe n x y H Q = ∃ b, eqT H n x y = some b ∧ Q (.bl (!b)) H := rfl
theorem tyF_n {H : Hp} : tyF H .non = some "NoneType" := rfl
theorem tyF_b {H : Hp} {b : Bool} : tyF H (.bl b) = some "bool" := rfl
theorem tyF_i {H : Hp} {b : Int} : tyF H (.int b) = some "int" := rfl
theorem tyF_s {H : Hp} {b : Str} : tyF H (.str b) = some "str" := rfl
theorem tyF_r {H : Hp} {a : Addr} : tyF H (.ref a) = tyH (H a) := rfl
theorem tyH_l {xs : List V} : tyH (some (.lst xs)) = some "list" := rfl
theorem tyH_t {xs : List V} : tyH (some (.tup xs)) = some "tuple" := rfl
theorem atI_lit0 {α : Type} {x : α} {xs : List α} : atI (x :: xs) 0 = some x := atI_nat (j := 0) rfl
theorem atI_lit1 {α : Type} {x y : α} {xs : List α} : atI (x :: y :: xs) 1 = some y := atI_nat (j := 1) rfl
theorem atI_lit2 {α : Type} {x y z : α} {xs : List α} : atI (x :: y :: z :: xs) 2 = some z := atI_nat (j := 2) rfl
theorem isiV_ty {T n : String} : isiV T (.ty n) = isiB T n := rfl
theorem knV_ty {n : String} : knV (.ty n) = knownTy.contains n := rfl
theorem seq_hide {t u : TS} {D : Ends} {σ : St} {H : Hp} (h : ∀ N : St → Hp → Prop, (∀ σ H, Go u D σ H → N σ H) → t { D with nx := N } σ H) : tSeq t u D σ H := h _ fun _ _ q => q
theorem seqM_hide {t u : TS} {D : Ends} {σ : St} {H : Hp} (M : St → Hp → Prop) (h1 : t { D with nx := M } σ H) (h2 : ∀ σ' H', M σ' H' → Go u D σ' H') : tSeqM t u D σ H := ⟨M, h1, h2⟩
/-- an inner block: simp stops ahead of it -/
def tBlk (t : TS) : TS := fun D σ H => Go t D σ H
theorem pss_blk {X : Cx} {b : List Stmt} {t : TS} (h : PSs X b t) : PSs X b (tBlk t) := h
theorem rBlk {t : TS} {D : Ends} {σ : St} {H : Hp} : tBlk t D σ H = Go t D σ H := rfl
end L2

namespace L2
open PySem PySem.Spec PyProof.Rows
theorem start_eq {N : List Str} {vs : List V} : L2.start N vs = vs.map some ++ List.replicate (N.length - vs.length) none := rfl
theorem capS_eq {k : Nat} {caps : List Nat} {σ : St} : capS k caps σ = List.replicate k none ++ caps.map fun j => (σ[j]?).join := rfl
theorem isiB_eq {T n : String} : isiB T n = (T == n || (T == "bool" && n == "int")) := rfl
theorem knownTy_eq : knownTy = ["NoneType", "bool", "int", "str", "list", "tuple", "dict"] := rfl
theorem CMul_eq {i j : Int} : CMul i j = ((-(2 ^ 64) < i ∧ i < 2 ^ 64) ∨ (-(2 ^ 64) < j ∧ j < 2 ^ 64)) := rfl
theorem CPow_eq {i j : Int} : CPow i j = (0 ≤ j ∧ j ≤ 1000000 ∧ i.natAbs < 2 ^ 64) := rfl
/-! ### all the rules at once -/
theorem rdA1 : type_of% @start_eq ∧ type_of% @capS_eq ∧ type_of% @isiB_eq ∧ type_of% @knownTy_eq ∧ type_of% @CMul_eq ∧ type_of% @CPow_eq ∧ type_of% @rSeq ∧ type_of% @rAsg ∧ type_of% @rName ∧ type_of% @rVar ∧ type_of% @rC ∧ type_of% @rOp ∧ type_of% @rUn ∧ type_of% @rRU ∧ type_of% @rCB ∧ type_of% @rNil ∧ type_of% @rCons ∧ type_of% @rTest ∧ type_of% @rTB ∧ type_of% @rTrue ∧ type_of% @rNot ∧ type_of% @rAnd ∧ type_of% @rOr ∧ type_of% @rAndV ∧ type_of% @rOrV ∧ type_of% @rNotV ∧ type_of% @rIf ∧ type_of% @rIfS ∧ type_of% @rRet ∧ type_of% @rRetN := ⟨@start_eq, @capS_eq, @isiB_eq, @knownTy_eq, @CMul_eq, @CPow_eq, @rSeq, @rAsg, @rName, @rVar, @rC, @rOp, @rUn, @rRU, @rCB, @rNil, @rCons, @rTest, @rTB, @rTrue, @rNot, @rAnd, @rOr, @rAndV, @rOrV, @rNotV, @rIf, @rIfS, @rRet, @rRetN⟩
theorem rdA2 : type_of% @rNext ∧ type_of% @rBreak ∧ type_of% @rCont ∧ type_of% @rDrop ∧ type_of% @rNever ∧ type_of% @rFor ∧ type_of% @rComp ∧ type_of% @rCall ∧ type_of% @rTup ∧ type_of% @rLst ∧ type_of% @rGTupF ∧ type_of% @rGNil ∧ type_of% @rGCons ∧ type_of% @rGSub ∧ type_of% @rI0' ∧ type_of% @rI' ∧ type_of% @rBM ∧ type_of% @rBM0 ∧ type_of% @rSl ∧ type_of% @rNoPart ∧ type_of% @rPart ∧ type_of% @rIList ∧ type_of% @rITup ∧ type_of% @rIRng1 ∧ type_of% @rIEnum ∧ type_of% @rIStr ∧ type_of% @uAdd_0 ∧ type_of% @uAdd_1 ∧ type_of% @uAdd_2 ∧ type_of% @uMul_0 := ⟨@rNext, @rBreak, @rCont, @rDrop, @rNever, @rFor, @rComp, @rCall, @rTup, @rLst, @rGTupF, @rGNil, @rGCons, @rGSub, @rI0', @rI', @rBM, @rBM0, @rSl, @rNoPart, @rPart, @rIList, @rITup, @rIRng1, @rIEnum, @rIStr, @uAdd_0, @uAdd_1, @uAdd_2, @uMul_0⟩
theorem rdA3 : type_of% @uMul_1 ∧ type_of% @uIx_0 ∧ type_of% @uIx_1 ∧ type_of% @uLen_0 ∧ type_of% @uLen_1 ∧ type_of% @uCut_0 ∧ type_of% @uCut_1 ∧ type_of% @uList_0 ∧ type_of% @uIsi_0 ∧ type_of% @uIsi_1 ∧ type_of% @uIn_0 ∧ type_of% @uIn_1 ∧ type_of% @uNin_0 ∧ type_of% @uNin_1 ∧ type_of% @uMax_0 ∧ type_of% @uMin_0 ∧ type_of% @uAbs_0 ∧ type_of% @uInt_0 ∧ type_of% @uInt_1 ∧ type_of% @uInt_2 ∧ type_of% @uAll_0 ∧ type_of% @uApp_0 ∧ type_of% @uClear_0 ∧ type_of% @uPop_0 ∧ type_of% @uRev_0 ∧ type_of% @uSetL_0 ∧ type_of% @rUEq ∧ type_of% @rUNe ∧ type_of% @upd_same ∧ type_of% @upd_old := ⟨@uMul_1, @uIx_0, @uIx_1, @uLen_0, @uLen_1, @uCut_0, @uCut_1, @uList_0, @uIsi_0, @uIsi_1, @uIn_0, @uIn_1, @uNin_0, @uNin_1, @uMax_0, @uMin_0, @uAbs_0, @uInt_0, @uInt_1, @uInt_2, @uAll_0, @uApp_0, @uClear_0, @uPop_0, @uRev_0, @uSetL_0, @rUEq, @rUNe, @upd_same, @upd_old⟩
theorem rdA4 : type_of% @rTyL ∧ type_of% @rTyS ∧ type_of% @exSqL ∧ type_of% @isL_l ∧ type_of% @seqF_eq ∧ type_of% @seqO_l ∧ type_of% @seqO_t ∧ type_of% @seqO_f ∧ type_of% @mapInt_inj ∧ type_of% @mapStr_inj ∧ type_of% @mapBl_inj ∧ type_of% @tyF_n ∧ type_of% @tyF_b ∧ type_of% @tyF_i ∧ type_of% @tyF_s ∧ type_of% @tyF_r ∧ type_of% @tyH_l ∧ type_of% @tyH_t ∧ type_of% @knV_ty ∧ type_of% @isiV_ty ∧ type_of% @exMap ∧ type_of% @eqT_ii ∧ type_of% @eqT_ss ∧ type_of% @eqT_bb ∧ type_of% @eqT_nn ∧ type_of% @eqT_in ∧ type_of% @eqT_ni ∧ type_of% @eqT_sn ∧ type_of% @eqT_ns ∧ type_of% @eqT_is := ⟨@rTyL, @rTyS, @exSqL, @isL_l, @seqF_eq, @seqO_l, @seqO_t, @seqO_f, @mapInt_inj, @mapStr_inj, @mapBl_inj, @tyF_n, @tyF_b, @tyF_i, @tyF_s, @tyF_r, @tyH_l, @tyH_t, @knV_ty, @isiV_ty, @exMap, @eqT_ii, @eqT_ss, @eqT_bb, @eqT_nn, @eqT_in, @eqT_ni, @eqT_sn, @eqT_ns, @eqT_is⟩
theorem rdA5 : type_of% @eqT_si ∧ type_of% @rBlk ∧ type_of% @sizeLine_eq ∧ type_of% @atI_lit0 ∧ type_of% @atI_lit1 ∧ type_of% @atI_lit2 := ⟨@eqT_si, @rBlk, @sizeLine_eq, @atI_lit0, @atI_lit1, @atI_lit2⟩
theorem rdS1 : type_of% @List.map_cons.{0, 0} ∧ type_of% @List.map_nil.{0, 0} ∧ type_of% @List.replicate_succ.{0} ∧ type_of% @List.replicate_zero.{0} ∧ type_of% @List.length_cons.{0} ∧ type_of% @List.length_nil.{0} ∧ type_of% @List.cons_append.{0} ∧ type_of% @List.nil_append.{0} ∧ type_of% @List.append_nil.{0} ∧ type_of% @List.set_cons_zero.{0} ∧ type_of% @List.set_cons_succ.{0} ∧ type_of% @List.getElem?_cons_zero.{0} ∧ type_of% @List.getElem?_cons_succ.{0} ∧ type_of% @Option.join_some.{0} ∧ type_of% @Option.some.injEq.{0} ∧ type_of% @exists_eq_left.{1} ∧ type_of% @exists_eq_left'.{1} ∧ type_of% @exists_eq_right.{1} ∧ type_of% @V.int.injEq ∧ type_of% @V.ref.injEq ∧ type_of% @V.bl.injEq ∧ type_of% @V.str.injEq ∧ type_of% @List.cons.injEq.{0} ∧ type_of% @HO.lst.injEq ∧ type_of% @HO.tup.injEq ∧ type_of% @and_true ∧ type_of% @true_and ∧ type_of% @exists_and_left.{1} ∧ type_of% @exists_and_right.{1} ∧ type_of% @decide_eq_true_eq ∧ type_of% @and_assoc ∧ type_of% @Option.isSome_some.{0} ∧ type_of% @if_true.{1} ∧ type_of% @if_false.{1} ∧ type_of% @ite_true.{1} := ⟨@List.map_cons.{0, 0}, @List.map_nil.{0, 0}, @List.replicate_succ.{0}, @List.replicate_zero.{0}, @List.length_cons.{0}, @List.length_nil.{0}, @List.cons_append.{0}, @List.nil_append.{0}, @List.append_nil.{0}, @List.set_cons_zero.{0}, @List.set_cons_succ.{0}, @List.getElem?_cons_zero.{0}, @List.getElem?_cons_succ.{0}, @Option.join_some.{0}, @Option.some.injEq.{0}, @exists_eq_left.{1}, @exists_eq_left'.{1}, @exists_eq_right.{1}, @V.int.injEq, @V.ref.injEq, @V.bl.injEq, @V.str.injEq, @List.cons.injEq.{0}, @HO.lst.injEq, @HO.tup.injEq, @and_true, @true_and, @exists_and_left.{1}, @exists_and_right.{1}, @decide_eq_true_eq, @and_assoc, @Option.isSome_some.{0}, @if_true.{1}, @if_false.{1}, @ite_true.{1}⟩
theorem rdS2 : type_of% @ite_false.{1} ∧ type_of% @Bool.false_eq_true ∧ type_of% @Bool.not_true ∧ type_of% @Bool.not_false ∧ type_of% @Bool.not_eq_true ∧ type_of% @List.contains_cons.{0} ∧ type_of% @List.all_cons.{0} ∧ type_of% @List.all_nil.{0} ∧ type_of% @Bool.or_false ∧ type_of% @Bool.false_or ∧ type_of% @Bool.or_true ∧ type_of% @Bool.true_or ∧ type_of% @Bool.and_false ∧ type_of% @Bool.false_and ∧ type_of% @Bool.and_true ∧ type_of% @Bool.true_and ∧ type_of% @or_true ∧ type_of% @true_or ∧ type_of% @or_false ∧ type_of% @false_or ∧ type_of% @exists_const.{1} ∧ type_of% @implies_true.{1} ∧ type_of% @forall_const.{1} ∧ type_of% @List.any_cons.{0} ∧ type_of% @List.any_nil.{0} ∧ type_of% @true_implies ∧ type_of% @not_true_eq_false ∧ type_of% @not_false_eq_true ∧ type_of% @eq_self.{1} ∧ type_of% @exists_eq.{1} ∧ type_of% @exists_eq'.{1} ∧ type_of% @exists_eq_right_right.{1} ∧ type_of% @decide_false ∧ type_of% @decide_true := ⟨@ite_false.{1}, @Bool.false_eq_true, @Bool.not_true, @Bool.not_false, @Bool.not_eq_true, @List.contains_cons.{0}, @List.all_cons.{0}, @List.all_nil.{0}, @Bool.or_false, @Bool.false_or, @Bool.or_true, @Bool.true_or, @Bool.and_false, @Bool.false_and, @Bool.and_true, @Bool.true_and, @or_true, @true_or, @or_false, @false_or, @exists_const.{1}, @implies_true.{1}, @forall_const.{1}, @List.any_cons.{0}, @List.any_nil.{0}, @true_implies, @not_true_eq_false, @not_false_eq_true, @eq_self.{1}, @exists_eq.{1}, @exists_eq'.{1}, @exists_eq_right_right.{1}, @decide_false, @decide_true⟩
end L2

namespace L2
open PySem PySem.Spec PyProof.Rows

/-! ### several objects turn, a tuple comes -/
section
variable {X : Cx} {pins : List (Addr × Obj)} {σ : St} {H : Hp} {s : Shared} {h' : Heap}
theorem Inv.turnedL {t' : Nat} {ch : List Addr} (I : Inv X pins σ H s) (k : ∀ b o, b ∉ ch → s.heap.get? b = some o → h'.get? b = some o) (f : ∀ b ∈ ch, FpOk X pins H b) : Inv X pins σ H { s with heap := h', toks := t' } := by
  have nch : ∀ b u, H b = some u → b ∉ ch := fun b u e z => by rw [(f b z).1] at e; cases e
  refine I.step (g' := s.gens) (d' := s.drawn) (ch := ch) (fun b hb => ⟨(f b hb).2.2.2.1, (f b hb).2.1, (f b hb).2.2.2.2.1, (f b hb).2.2.2.2.2⟩) (fun b o _ _ hc e _ => k b o hc e) (fun b o _ _ hc e _ => ⟨o.slots, k b o hc e⟩) (fun _ _ _ _ n => n)
    (fun b o hc e => ⟨o, k b o hc e⟩) (fun _ _ e => e) (fun _ _ _ e => e) (fun b ps e => ⟨#[], by rw [e]; simp⟩) (fun m hm => ?_) (fun b u e => ?_) I.bare
  · obtain ⟨o, es, ep, ho, r⟩ := hm
    exact ⟨o, es, ep, k _ o (fun z => (f _ z).2.1 rfl) ho, r⟩
  · refine (I.hok b u e).stay (fun c v hc q => k c v ?_ q) (fun _ q => q) fun _ _ q => q
    rcases hc with z | z
    · rw [z]; exact nch b u e
    · exact nch c _ z
theorem Inv.turnedNew {t' : Nat} {ch : List Addr} {xs : List V} {us : List Value} (I : Inv X pins σ H s) (k : ∀ b o, b ∉ ch → s.heap.get? b = some o → h'.get? b = some o) (f : ∀ b ∈ ch, FpOk X pins H b)
    (hlt : ∀ b ∈ ch, b ≠ s.heap.objs.size) (hT : h'.get? s.heap.objs.size = some { cls := .type "tuple", data := .seq us.toArray }) (hv : Vals xs us) (hz : xs.length ≤ sizeLine) : Inv X pins σ (upd H s.heap.objs.size (.tup xs)) { s with heap := h', toks := t' } := by
  have nch : ∀ b u, H b = some u → b ∉ ch := fun b u e z => by rw [(f b z).1] at e; cases e
  have hn : H s.heap.objs.size = none := I.hok.fresh (Nat.le_refl _)
  have lt : ∀ b o, s.heap.get? b = some o → b ≠ s.heap.objs.size := fun b o q => Nat.ne_of_lt (Heap.lt_size q)
  refine I.step (g' := s.gens) (d' := s.drawn) (ch := ch) (fun b hb => ⟨(f b hb).2.2.2.1, (f b hb).2.1, (f b hb).2.2.2.2.1, (f b hb).2.2.2.2.2⟩) (fun b o _ _ hc e _ => k b o hc e) (fun b o _ _ hc e _ => ⟨o.slots, k b o hc e⟩)
    (fun b o hc q n => by rw [upd_ne (lt b o q)]; exact n) (fun b o hc e => ⟨o, k b o hc e⟩)
    (fun b xs q => by rw [upd_ne (ne_of_none q hn)]; exact q) (fun b o u q => by rw [upd_ne (ne_of_none q hn)]; exact q) (fun b ps q => ⟨#[], by rw [upd_ne (ne_of_none q hn), q]; simp⟩) (fun m hm => ?_) (fun b u e => ?_) I.bare
  · obtain ⟨o, es, ep, ho, r⟩ := hm
    exact ⟨o, es, ep, k _ o (fun z => (f _ z).2.1 rfl) ho, r⟩
  · by_cases hb : b = s.heap.objs.size
    · subst hb
      rw [upd_same] at e
      cases e
      exact ⟨hz, us, hv, ⟨_, hT, rfl, _, rfl⟩⟩
    · rw [upd_ne hb] at e
      refine (I.hok b u e).stay (fun c v hc' q' => k c v ?_ q') (fun c q' => by rw [upd_ne (ne_of_none q' hn)]; exact q') (fun c xs q' => by rw [upd_ne (ne_of_none q' hn)]; exact q')
      rcases hc' with z | z
      · rw [z]; exact nch b u e
      · exact nch c _ z
end

/-! ### sum of a list of ints -/
theorem vals_int : ∀ {ns : List Int} {us : List Value}, Vals (ns.map V.int) us → us.length = ns.length ∧ ∀ (i : Nat) (v : Value), us[i]? = some v → ∃ t, v = Value.int (ns.getD i 0) t
  | [], _, r => by cases r; exact ⟨rfl, fun i v h => by simp at h⟩
  | n :: ns, _, r => by
    rw [List.map_cons] at r
    cases r with
    | cons r1 r2 =>
      obtain ⟨hl, hv⟩ := vals_int r2
      refine ⟨by simp [hl], fun i v h => ?_⟩
      cases i with
      | zero =>
        obtain ⟨t, e⟩ := r1
        cases (show some _ = some v from h)
        exact ⟨t, by rw [e]; simp⟩
      | succ i =>
        obtain ⟨t, e⟩ := hv i v (by simpa using h)
        exact ⟨t, by rw [e]; simp⟩
theorem preSum_getD (ns : List Int) : preSum (fun i => ns.getD i 0) ns.length = ns.sum := by
  have go : ∀ k, k ≤ ns.length → preSum (fun i => ns.getD i 0) k = (ns.take k).sum := by
    intro k
    induction k with
    | zero => intro _; rfl
    | succ k ih =>
      intro hk
      have e : ns[k]? = some ns[k] := List.getElem?_eq_getElem hk
      show preSum (fun i => ns.getD i 0) k + ns.getD k 0 = _
      rw [ih (by omega), List.take_add_one, e, List.getD_eq_getElem?_getD, e]
      show (ns.take k).sum + ns[k] = (ns.take k ++ [ns[k]]).sum
      rw [List.sum_append]; simp only [List.sum_cons, List.sum_nil, Int.add_zero]
  rw [go _ (Nat.le_refl _), List.take_length]
section
variable {X : Cx}
def uSum : List V → Hp → VK → Prop
  | [.ref p], H, Q => ∃ ns : List Int, H p = some (.lst (ns.map V.int)) ∧ Q (.int ns.sum) H
  | _, _, _ => False
theorem u_sum (hc : X.calm = true) : CallR X (.builtin "sum") uSum := by
  intro pins s σ H xs us Q I r h
  unfold uSum at h
  split at h
  · rename_i p
    obtain ⟨ns, h1, q⟩ := h
    obtain ⟨u, rfl, rx⟩ := vals1 r
    cases rx
    obtain ⟨its, rv, pl, hz⟩ := I.list (SqL.of (K := X.K) h1)
    have hA : X.A.in1.handled = none := I.ok.hd hc
    have hp : p < s.heap.objs.size := by
      obtain ⟨o, n, e, _⟩ := pl
      exact Heap.lt_size e
    obtain ⟨hl, hv⟩ := vals_int rv
    refine call_sum_walkAnyS (wpAny_pyIter_list pl.isList ?_)
    refine ⟨s.heap.objs.size, _, _, _, _, _, _, fun i => ns.getD i 0, rfl, (Walks.list hA _ p (Nat.ne_of_lt hp) its.toArray).toS, ⟨⟨_, Heap.get?_push_size _ rfl, rfl, rfl⟩, pl.isList.at fun o e => Heap.get?_push_of_some _ e⟩, fun b hb => ?_, fun i v hiv => hv i v (by simpa using hiv), fun s' t' mv => ?_⟩
    · show b < (s.heap.push _).objs.size
      rw [Heap.size_push]
      rcases List.mem_cons.mp hb with rfl | hb
      · exact Nat.lt_succ_self _
      · rcases List.mem_cons.mp hb with rfl | hb
        · exact Nat.lt_succ_of_lt hp
        · cases hb
    · obtain ⟨hk, hg, hd, ho, _⟩ := mv
      obtain ⟨hp', g', d', tk', os'⟩ := s'
      simp only at hk hg hd ho
      subst hg hd ho
      have fo := I.fpOk (H' := H) (Nat.le_refl _) (I.hok.fresh (Nat.le_refl _))
      have e : its.toArray.size = ns.length := by simpa using hl
      refine ⟨.int ns.sum, H, I.turnedL (t' := tk') (ch := [s.heap.objs.size]) (h' := hp') (fun b o hb q => hk b o hb (Heap.get?_push_of_some _ q)) (fun b hb => by
        have e : b = s.heap.objs.size := by simpa using hb
        subst e; exact fo), ⟨t', ?_⟩, q⟩
      rw [e, preSum_getD]
  · exact h.elim
/-! ### max and min of a list, max of three -/
def maxL : List Int → Int
  | [] => 0
  | [n] => n
  | n :: ns => max n (maxL ns)
def minL : List Int → Int
  | [] => 0
  | [n] => n
  | n :: ns => min n (minL ns)
theorem maxL_spec : ∀ (ns : List Int), ns ≠ [] → maxL ns ∈ ns ∧ ∀ n ∈ ns, n ≤ maxL ns
  | [], h => absurd rfl h
  | [n], _ => ⟨List.mem_singleton.mpr rfl, fun m hm => by rw [List.mem_singleton.mp hm]; exact Int.le_refl _⟩
  | n :: k :: ns, _ => by
    have ih := maxL_spec (k :: ns) (by simp)
    have e : maxL (n :: k :: ns) = max n (maxL (k :: ns)) := rfl
    rw [e]
    refine ⟨?_, fun m hm => ?_⟩
    · by_cases h : n ≤ maxL (k :: ns)
      · rw [Int.max_eq_right h]; exact List.mem_cons_of_mem _ ih.1
      · rw [Int.max_eq_left (by omega)]; exact List.mem_cons_self
    · rcases List.mem_cons.mp hm with rfl | hm
      · omega
      · have := ih.2 m hm; omega
theorem minL_spec : ∀ (ns : List Int), ns ≠ [] → minL ns ∈ ns ∧ ∀ n ∈ ns, minL ns ≤ n
  | [], h => absurd rfl h
  | [n], _ => ⟨List.mem_singleton.mpr rfl, fun m hm => by rw [List.mem_singleton.mp hm]; exact Int.le_refl _⟩
  | n :: k :: ns, _ => by
    have ih := minL_spec (k :: ns) (by simp)
    have e : minL (n :: k :: ns) = min n (minL (k :: ns)) := rfl
    rw [e]
    refine ⟨?_, fun m hm => ?_⟩
    · by_cases h : n ≤ minL (k :: ns)
      · rw [Int.min_eq_left h]; exact List.mem_cons_self
      · rw [Int.min_eq_right (by omega)]; exact List.mem_cons_of_mem _ ih.1
    · rcases List.mem_cons.mp hm with rfl | hm
      · omega
      · have := ih.2 m hm; omega
theorem best_max {ns : List Int} {v : Int} (h1 : v ∈ ns) (h2 : ∀ n ∈ ns, n ≤ v) : v = maxL ns := by
  have s := maxL_spec ns (fun e => by rw [e] at h1; cases h1)
  have a := h2 _ s.1
  have b := s.2 _ h1
  omega
theorem best_min {ns : List Int} {v : Int} (h1 : v ∈ ns) (h2 : ∀ n ∈ ns, v ≤ n) : v = minL ns := by
  have s := minL_spec ns (fun e => by rw [e] at h1; cases h1)
  have a := h2 _ s.1
  have b := s.2 _ h1
  omega
/-- the place of the best among the first k + 1 -/
theorem argBest_gt (f : Nat → Int) : ∀ k, argBest (fun i j => decide (f i > f j)) k ≤ k ∧ ∀ i, i ≤ k → f i ≤ f (argBest (fun i j => decide (f i > f j)) k)
  | 0 => ⟨Nat.le_refl _, fun i hi => by rw [Nat.le_zero.mp hi]; exact Int.le_refl _⟩
  | k + 1 => by
    obtain ⟨h1, h2⟩ := argBest_gt f k
    rw [argBest]
    split
    · rename_i h
      have h : f (k + 1) > f (argBest (fun i j => decide (f i > f j)) k) := by simpa using h
      refine ⟨Nat.le_refl _, fun i hi => ?_⟩
      rcases Nat.lt_or_ge i (k + 1) with hlt | hge
      · have := h2 i (by omega); omega
      · rw [show i = k + 1 by omega]; exact Int.le_refl _
    · rename_i h
      have h : ¬ f (k + 1) > f (argBest (fun i j => decide (f i > f j)) k) := by simpa using h
      refine ⟨by omega, fun i hi => ?_⟩
      rcases Nat.lt_or_ge i (k + 1) with hlt | hge
      · exact h2 i (by omega)
      · rw [show i = k + 1 by omega]; omega
theorem argBest_lt (f : Nat → Int) : ∀ k, argBest (fun i j => decide (f i < f j)) k ≤ k ∧ ∀ i, i ≤ k → f (argBest (fun i j => decide (f i < f j)) k) ≤ f i
  | 0 => ⟨Nat.le_refl _, fun i hi => by rw [Nat.le_zero.mp hi]; exact Int.le_refl _⟩
  | k + 1 => by
    obtain ⟨h1, h2⟩ := argBest_lt f k
    rw [argBest]
    split
    · rename_i h
      have h : f (k + 1) < f (argBest (fun i j => decide (f i < f j)) k) := by simpa using h
      refine ⟨Nat.le_refl _, fun i hi => ?_⟩
      rcases Nat.lt_or_ge i (k + 1) with hlt | hge
      · have := h2 i (by omega); omega
      · rw [show i = k + 1 by omega]; exact Int.le_refl _
    · rename_i h
      have h : ¬ f (k + 1) < f (argBest (fun i j => decide (f i < f j)) k) := by simpa using h
      refine ⟨by omega, fun i hi => ?_⟩
      rcases Nat.lt_or_ge i (k + 1) with hlt | hge
      · exact h2 i (by omega)
      · rw [show i = k + 1 by omega]; omega
theorem getD_mem {ns : List Int} {i : Nat} (h : i < ns.length) : ns.getD i 0 ∈ ns := by
  rw [List.getD_eq_getElem?_getD, List.getElem?_eq_getElem h]; exact List.getElem_mem h
theorem getD_of {ns : List Int} {n : Int} (h : n ∈ ns) : ∃ i, i < ns.length ∧ ns.getD i 0 = n := by
  obtain ⟨i, hi, e⟩ := List.getElem_of_mem h
  exact ⟨i, hi, by rw [List.getD_eq_getElem?_getD, List.getElem?_eq_getElem hi]; exact e⟩
theorem argBest_max {ns : List Int} (h : ns ≠ []) : ns.getD (argBest (fun i j => decide (ns.getD i 0 > ns.getD j 0)) (ns.length - 1)) 0 = maxL ns := by
  have hl : 0 < ns.length := List.length_pos_iff.mpr h
  obtain ⟨h1, h2⟩ := argBest_gt (fun i => ns.getD i 0) (ns.length - 1)
  refine best_max (getD_mem (by omega)) fun n hn => ?_
  obtain ⟨i, hi, rfl⟩ := getD_of hn
  exact h2 i (by omega)
theorem argBest_min {ns : List Int} (h : ns ≠ []) : ns.getD (argBest (fun i j => decide (ns.getD i 0 < ns.getD j 0)) (ns.length - 1)) 0 = minL ns := by
  have hl : 0 < ns.length := List.length_pos_iff.mpr h
  obtain ⟨h1, h2⟩ := argBest_lt (fun i => ns.getD i 0) (ns.length - 1)
  refine best_min (getD_mem (by omega)) fun n hn => ?_
  obtain ⟨i, hi, rfl⟩ := getD_of hn
  exact h2 i (by omega)
theorem vals_cons {x : V} {xs : List V} {us : List Value} (r : Vals (x :: xs) us) : ∃ u us', us = u :: us' ∧ RelV x u ∧ Vals xs us' := by
  cases r with
  | cons r1 r2 => exact ⟨_, _, rfl, r1, r2⟩
theorem iter_lst {pins : List (Addr × Obj)} {σ : St} {H : Hp} {s : Shared} {p : Addr} {ns : List Int} (I : Inv X pins σ H s) (h : H p = some (.lst (ns.map V.int))) :
    ∃ its : Array Value, s.heap.IsList p its ∧ its.size = ns.length ∧ (∀ (i : Nat) (v : Value), its[i]? = some v → ∃ t, v = Value.int (ns.getD i 0) t) ∧ p < s.heap.objs.size := by
  obtain ⟨its, rv, pl, hz⟩ := I.list (SqL.of (K := X.K) h)
  obtain ⟨hl, hv⟩ := vals_int rv
  refine ⟨its.toArray, pl.isList, by simpa using hl, fun i v hiv => hv i v (by simpa using hiv), ?_⟩
  obtain ⟨o, n, e, _⟩ := pl
  exact Heap.lt_size e
theorem fp2 {s : Shared} {p : Addr} {o : Obj} (hp : p < s.heap.objs.size) : ∀ b ∈ [s.heap.objs.size, p], b < (s.heap.push o).objs.size := fun b hb => by
  rw [Heap.size_push]
  rcases List.mem_cons.mp hb with rfl | hb
  · exact Nat.lt_succ_self _
  · rcases List.mem_cons.mp hb with rfl | hb
    · exact Nat.lt_succ_of_lt hp
    · cases hb
theorem Inv.after1 {pins : List (Addr × Obj)} {σ : St} {H : Hp} {s : Shared} {o : Obj} {h' : Heap} {tk : Nat} (I : Inv X pins σ H s) (hk : ∀ b u, b ∉ [s.heap.objs.size] → (s.heap.push o).get? b = some u → h'.get? b = some u) : Inv X pins σ H { s with heap := h', toks := tk } :=
  I.turnedL (t' := tk) (ch := [s.heap.objs.size]) (fun b u hb q => hk b u hb (Heap.get?_push_of_some _ q)) fun b hb => by
    have e : b = s.heap.objs.size := by simpa using hb
    subst e; exact I.fpOk (H' := H) (Nat.le_refl _) (I.hok.fresh (Nat.le_refl _))
def uMaxA : List V → Hp → VK → Prop
  | [.int i, .int j], H, Q => Q (.int (max i j)) H
  | [.int i, .int j, .int k], H, Q => Q (.int (max (max i j) k)) H
  | [.ref p], H, Q => ∃ ns : List Int, H p = some (.lst (ns.map V.int)) ∧ ns ≠ [] ∧ Q (.int (maxL ns)) H
  | _, _, _ => False
def uMinA : List V → Hp → VK → Prop
  | [.int i, .int j], H, Q => Q (.int (min i j)) H
  | [.ref p], H, Q => ∃ ns : List Int, H p = some (.lst (ns.map V.int)) ∧ ns ≠ [] ∧ Q (.int (minL ns)) H
  | _, _, _ => False
theorem u_maxA (hc : X.calm = true) : CallR X (.builtin "max") uMaxA := by
  intro pins s σ H xs us Q I r h
  unfold uMaxA at h
  split at h
  · exact u_max hc pins s σ H _ us Q I r h
  · rename_i i j k
    obtain ⟨u, us, rfl, ⟨t, rfl⟩, r0⟩ := vals_cons r
    obtain ⟨u, w', rfl, ⟨t', rfl⟩, ⟨t'', rfl⟩⟩ := vals2 r0
    refine max_three_ints (I.ok.hd hc) fun h' tk kk => ⟨.int (max (max i j) k), H, I.kept kk, ?_, h⟩
    by_cases h1 : j > i
    · by_cases h2 : k > j
      · rw [if_pos h1, if_pos h2, show max (max i j) k = k by omega]; exact ⟨_, rfl⟩
      · rw [if_pos h1, if_neg h2, show max (max i j) k = j by omega]; exact ⟨_, rfl⟩
    · by_cases h2 : k > i
      · rw [if_neg h1, if_pos h2, show max (max i j) k = k by omega]; exact ⟨_, rfl⟩
      · rw [if_neg h1, if_neg h2, show max (max i j) k = i by omega]; exact ⟨_, rfl⟩
  · rename_i p
    obtain ⟨ns, h1, hne, q⟩ := h
    obtain ⟨u, rfl, rx⟩ := vals1 r
    cases rx
    obtain ⟨its, hl, hsz, hv, hp⟩ := iter_lst I h1
    have hA : X.A.in1.handled = none := I.ok.hd hc
    have hl0 : 0 < ns.length := List.length_pos_iff.mpr hne
    refine call_max_walk (wpAny_pyIter_list hl ?_)
    refine ⟨s.heap.objs.size, _, _, _, _, _, _, rfl, Walks.list hA _ p (Nat.ne_of_lt hp) its, ⟨⟨_, Heap.get?_push_size _ rfl, rfl, rfl⟩, hl.push _⟩, fp2 hp, by omega, CmpOf.ints_gt (fun i => ns.getD i 0) hv, fun v h' tk hP hk => ?_⟩
    obtain ⟨t, e⟩ := hv _ _ hP
    rw [hsz, argBest_max hne] at e
    exact ⟨.int (maxL ns), H, I.after1 hk, ⟨t, e⟩, q⟩
  · exact h.elim
theorem u_minA (hc : X.calm = true) : CallR X (.builtin "min") uMinA := by
  intro pins s σ H xs us Q I r h
  unfold uMinA at h
  split at h
  · exact u_min hc pins s σ H _ us Q I r h
  · rename_i p
    obtain ⟨ns, h1, hne, q⟩ := h
    obtain ⟨u, rfl, rx⟩ := vals1 r
    cases rx
    obtain ⟨its, hl, hsz, hv, hp⟩ := iter_lst I h1
    have hA : X.A.in1.handled = none := I.ok.hd hc
    have hl0 : 0 < ns.length := List.length_pos_iff.mpr hne
    refine call_min_walk (wpAny_pyIter_list hl ?_)
    refine ⟨s.heap.objs.size, _, _, _, _, _, _, rfl, Walks.list hA _ p (Nat.ne_of_lt hp) its, ⟨⟨_, Heap.get?_push_size _ rfl, rfl, rfl⟩, hl.push _⟩, fp2 hp, by omega, CmpOf.ints_lt (fun i => ns.getD i 0) hv, fun v h' tk hP hk => ?_⟩
    obtain ⟨t, e⟩ := hv _ _ hP
    rw [hsz, argBest_min hne] at e
    exact ⟨.int (minL ns), H, I.after1 hk, ⟨t, e⟩, q⟩
  · exact h.elim
end
end L2

namespace L2
open PySem PySem.Spec PyProof.Rows

/-! ### zip of two lists -/
def Itz (K : PySem.W.Frag) (a b : Addr) : It :=
  ⟨fun i H => ∃ xs ys x y, SqL K H a xs ∧ SqL K H b ys ∧ xs[i]? = some x ∧ ys[i]? = some y,
   fun i H v H' => ∃ p x y, H p = none ∧ (∀ xs, SqL K H a xs → xs[i]? = some x) ∧ (∀ ys, SqL K H b ys → ys[i]? = some y) ∧ v = .ref p ∧ H' = upd H p (.tup [x, y]),
   fun i H => ∃ xs ys, SqL K H a xs ∧ SqL K H b ys ∧ (xs.length ≤ i ∨ ys.length ≤ i)⟩
def znT (n : Nat) (a b : Addr) (i : Nat) (h : Heap) : Prop := IsZip h (n + 4) (n + 2) (n + 3) .none ∧ IsPair h (n + 2) (.ref n) (.ref (n + 1)) ∧ (∃ x y, IsPair h (n + 3) x y) ∧ h.IsListIter n a i ∧ h.IsListIter (n + 1) b i
theorem nn {a b : Nat} (h : a < b ∨ b < a) : a ≠ b := by omega
theorem ch_sub {n : Nat} : ∀ b ∈ ([n + 4, n + 3, n, n + 1] : List Addr), b ∈ ([n + 4, n + 2, n + 3, n, n + 1] : List Addr) := fun b hb => by
  simp only [List.mem_cons, List.not_mem_nil, or_false] at hb
  rcases hb with rfl | rfl | rfl | rfl <;> simp
theorem fp_lt {n m : Nat} (h : n + 4 < m) : ∀ b ∈ ([n + 4, n + 2, n + 3, n, n + 1] : List Addr), b ≠ m := fun b hb => by
  simp only [List.mem_cons, List.not_mem_nil, or_false] at hb
  rcases hb with rfl | rfl | rfl | rfl | rfl <;> exact nn (by omega)
theorem fp_ge {n : Nat} : ∀ b ∈ ([n + 4, n + 2, n + 3, n, n + 1] : List Addr), n ≤ b := fun b hb => by
  simp only [List.mem_cons, List.not_mem_nil, or_false] at hb
  rcases hb with rfl | rfl | rfl | rfl | rfl
  · exact Nat.le_add_right _ _
  · exact Nat.le_add_right _ _
  · exact Nat.le_add_right _ _
  · exact Nat.le_refl _
  · exact Nat.le_add_right _ _
theorem zip_apart {h : Heap} {n a b i : Nat} {xs ys : Array Value} (st : znT n a b i h) (ha : h.IsList a xs) (hb : h.IsList b ys) : ZipApart (n + 4) (n + 2) (n + 3) n (n + 1) a b := by
  obtain ⟨h1, h2, ⟨x, y, h3⟩, ⟨o4, e4, c4, _⟩, ⟨o5, e5, c5, _⟩⟩ := st
  obtain ⟨oa, ea, ca, _⟩ := ha
  obtain ⟨ob, eb, cb, _⟩ := hb
  refine ⟨nn (by omega), nn (by omega), nn (by omega), nn (by omega), nn (by omega), nn (by omega), nn (by omega), nn (by omega), nn (by omega), nn (by omega), ?_, ?_, ?_, ?_, ?_, ?_, ?_, ?_⟩
  all_goals
    intro e
    subst e
  · rw [h1] at ea; cases ea; simp at ca
  · rw [h3] at ea; cases ea; simp at ca
  · rw [e4] at ea; cases ea; rw [c4] at ca; simp at ca
  · rw [e5] at ea; cases ea; rw [c5] at ca; simp at ca
  · rw [h1] at eb; cases eb; simp at cb
  · rw [h3] at eb; cases eb; simp at cb
  · rw [e4] at eb; cases eb; rw [c4] at cb; simp at cb
  · rw [e5] at eb; cases eb; rw [c5] at cb; simp at cb
theorem turn_zip {P : Program} {w : World} {K : PySem.W.Frag} {elts : List Expr} {x1 : Nat} {tp : Pos} (a b : Addr) (n : Nat) :
    Turn P w K (.Tuple elts x1 tp) (Itz K a b) [n + 4, n + 2, n + 3, n, n + 1] (n + 4) (znT n a b) where
  mem := by simp
  obj := fun i h st c hc => by
    obtain ⟨h1, h2, ⟨x, y, h3⟩, ⟨o4, e4, c4, d4⟩, ⟨o5, e5, c5, d5⟩⟩ := st
    simp only [List.mem_cons, List.not_mem_nil, or_false] at hc
    rcases hc with rfl | rfl | rfl | rfl | rfl
    · exact ⟨_, h1, fun v z => by have z' : Data.fields _ = Data.cell v := z; cases z'⟩
    · exact ⟨_, h2, fun v z => by have z' : Data.seq _ _ = Data.cell v := z; cases z'⟩
    · exact ⟨_, h3, fun v z => by have z' : Data.seq _ _ = Data.cell v := z; cases z'⟩
    · exact ⟨_, e4, fun v z => by rw [d4] at z; cases z⟩
    · exact ⟨_, e5, fun v z => by rw [d5] at z; cases z⟩
  keep := fun i h h' st k => by
    obtain ⟨h1, h2, ⟨x, y, h3⟩, h4, h5⟩ := st
    exact ⟨k _ (by simp) _ h1, k _ (by simp) _ h2, ⟨x, y, k _ (by simp) _ h3⟩, h4.at fun o e => k _ (by simp) o e, h5.at fun o e => k _ (by simp) o e⟩
  item := by
    intro X hP hw hK hc i pins s σ H E I hf st hg
    subst hP hw hK
    obtain ⟨xs, ys, x, y, hqa, hqb, hx, hy⟩ := hg
    obtain ⟨ia, rva, pa, hza⟩ := I.list hqa
    obtain ⟨ib, rvb, pb, hzb⟩ := I.list hqb
    obtain ⟨u, hu, ru⟩ := rva.get hx
    obtain ⟨v, hv, rv⟩ := rvb.get hy
    have D := zip_apart st pa.isList pb.isList
    obtain ⟨h1, h2, ⟨x0, y0, h3⟩, h4, h5⟩ := id st
    have hzlt : n + 4 < s.heap.objs.size := Heap.lt_size h1
    refine wpAny_pyNext_zip_item D h1 h2 h3 h4 h5 pa.isList pb.isList (x := u) (y := v) (by simpa using hu) (by simpa using hv) fun h' a1 a2 a3 a4 a5 a6 hk => ?_
    refine ⟨_, rfl, wpAny_letOwnedTupleGo_zip a1 fun h'' b1 sb => ?_⟩
    have up : ∀ c o, c ≠ n + 4 → h'.get? c = some o → h''.get? c = some o := fun c o hcc e => sb.extBut _ _ hcc e
    have all : ∀ c o, c ∉ [n + 4, n + 3, n, n + 1] → s.heap.get? c = some o → h''.get? c = some o := fun c o hcc e => by
      simp only [List.mem_cons, List.not_mem_nil, or_false, not_or] at hcc
      exact up c o hcc.1 (hk c o hcc.1 hcc.2.1 hcc.2.2.1 hcc.2.2.2 e)
    have hn : H s.heap.objs.size = none := I.hok.fresh (Nat.le_refl _)
    have hT : h''.get? s.heap.objs.size = some { cls := .type "tuple", data := .seq [u, v].toArray } := up _ _ (nn (.inr hzlt)) a5
    have I1 : Inv X pins σ (upd H s.heap.objs.size (.tup [x, y])) { s with heap := h'' } := I.turnedNew (t' := s.toks) (ch := [n + 4, n + 3, n, n + 1]) all (fun c hcc => hf c (ch_sub c hcc)) (fun c hcc => fp_lt hzlt c (ch_sub c hcc)) hT (.cons ru (.cons rv .nil)) (by show 2 ≤ sizeLine; decide)
    refine ⟨.ref s.heap.objs.size, _, I1, rfl, ⟨_, x, y, hn, fun zs hz => by rw [I.list_inj hz hqa]; exact hx, fun zs hz => by rw [I.list_inj hz hqb]; exact hy, rfl, rfl⟩, ⟨b1, up _ _ D.TIz (hk _ _ D.TIz D.TITO D.TIi1 D.TIi2 h2), ⟨_, _, up _ _ D.TOz a2⟩, a3.at fun o e => up _ o D.i1z e, a4.at fun o e => up _ o D.i2z e⟩, fun c hcc => ?_⟩
    rw [upd_ne (fp_lt hzlt c hcc)]
    exact (hf c hcc).1
  done := by
    intro X hP hw hK hc i pins s σ H E I hf st hg
    subst hP hw hK
    obtain ⟨xs, ys, hqa, hqb, hend⟩ := hg
    obtain ⟨ia, rva, pa, hza⟩ := I.list hqa
    obtain ⟨ib, rvb, pb, hzb⟩ := I.list hqb
    have la := rva.length
    have lb := rvb.length
    have D := zip_apart st pa.isList pb.isList
    obtain ⟨h1, h2, ⟨x0, y0, h3⟩, h4, h5⟩ := id st
    refine wpAny_pyNext_zip_end (I.ok.hd hc) D h1 h2 h3 h4 h5 pa.isList pb.isList (hend.imp (fun h => by rw [List.getElem?_toArray]; exact List.getElem?_eq_none (by omega)) (fun h => by rw [List.getElem?_toArray]; exact List.getElem?_eq_none (by omega))) fun h' hk => ⟨rfl, ?_⟩
    exact I.turnedL (t' := s.toks) (ch := [n + 4, n + 3, n, n + 1]) (fun c o hcc e => by
      simp only [List.mem_cons, List.not_mem_nil, or_false, not_or] at hcc
      exact hk c o hcc.1 hcc.2.1 hcc.2.2.1 hcc.2.2.2 e) (fun c hcc => hf c (ch_sub c hcc))
  self := fun A i s Q E st h => wpAny_pyIter_zip st.1 h
section
variable {X : Cx} {tg : Expr}
def iZip (K : PySem.W.Frag) (ta : TA) : TI := fun σ H R => ta σ H fun vs H1 => ∃ a b, vs = [.ref a, .ref b] ∧ (∃ xs, SqL K H1 a xs) ∧ (∃ xs, SqL K H1 b xs) ∧ R (Itz K a b) H1
theorem pi_zip {a b : Expr} {ta : TA} {p pos tp : Pos} {elts : List Expr} {x1 : Nat} (hg : Gl X "zip") (hm : X.mg "zip" = none) (ha : PA X [a, b] ta) (hs : starEach [a, b] X.env = [(false, eval a X.env), (false, eval b X.env)] := by rfl) (hs2 : starEach [b] X.env = [(false, eval b X.env)] := by rfl) :
    PI X (.Tuple elts x1 tp) (.Call (.Name "zip" p) [a, b] [] pos) (iZip X.K ta) := by
  intro pins s σ H R I h
  refine Call_ (ld_blt I hg hm boot_zip (PyProof.Rows.callWith_type1 (thn (ha pos pins s σ H _ I h) fun us s1 ⟨vs, H1, I1, r1, q1⟩ => ?_) (by rw [hs, hs2]) (by rw [hs2]; rfl)))
  obtain ⟨a, b, e, ⟨xs, hqa⟩, ⟨ys, hqb⟩, q⟩ := q1
  subst e
  obtain ⟨u, v, rfl, ra, rb⟩ := vals2 r1
  cases ra
  cases rb
  obtain ⟨ia, rva, pa, hza⟩ := I1.list hqa
  obtain ⟨ib, rvb, pb, hzb⟩ := I1.list hqb
  refine call_zip_2 pa.isList pb.isList fun h' z1 z2 z3 z4 z5 hsz kk => ?_
  have I2 : Inv X pins σ H1 { s1 with heap := h' } := I1.kept (t' := s1.toks) kk
  refine wpAny_pyIter_zip z1 ⟨s1.heap.objs.size + 4, [s1.heap.objs.size + 4, s1.heap.objs.size + 2, s1.heap.objs.size + 3, s1.heap.objs.size, s1.heap.objs.size + 1], _, _, H1, rfl, I2, turn_zip a b s1.heap.objs.size, ⟨z1, z2, ⟨_, _, z3⟩, z4, z5⟩, fun c hc => ?_, q⟩
  have hle : s1.heap.objs.size ≤ c := fp_ge c hc
  exact I1.fpOk hle (I1.hok.fresh hle)
end
section
variable {D : Ends} {σ : St} {H : Hp} {g : TG} {tA : TA} {tl : TE} {R : It → Hp → Prop} {K : PySem.W.Frag} {tb : TS}
theorem rIZip : iZip K tA σ H R = tA σ H fun vs H1 => ∃ a b, vs = [.ref a, .ref b] ∧ (∃ xs, SqL K H1 a xs) ∧ (∃ xs, SqL K H1 b xs) ∧ R (Itz K a b) H1 := rfl
theorem rIRng2 : iRng2 tA σ H R = tA σ H fun vs H1 => ∃ i j : Int, vs = [.int i, .int j] ∧ (-(2 ^ 62) ≤ i ∧ i < 2 ^ 62 ∧ -(2 ^ 62) ≤ j ∧ j < 2 ^ 62) ∧ R (Itr i (j - i).toNat) H1 := rfl
theorem uSum_0 {p : Addr} {H : Hp} {Q : VK} : uSum [.ref p] H Q = ∃ ns : List Int, H p = some (.lst (ns.map V.int)) ∧ Q (.int ns.sum) H := rfl
theorem uMaxA_0 {i j : Int} {H : Hp} {Q : VK} : uMaxA [.int i, .int j] H Q = Q (.int (max i j)) H := rfl
theorem uMaxA_1 {i j k : Int} {H : Hp} {Q : VK} : uMaxA [.int i, .int j, .int k] H Q = Q (.int (max (max i j) k)) H := rfl
theorem uMaxA_2 {p : Addr} {H : Hp} {Q : VK} : uMaxA [.ref p] H Q = ∃ ns : List Int, H p = some (.lst (ns.map V.int)) ∧ ns ≠ [] ∧ Q (.int (maxL ns)) H := rfl
theorem uMinA_0 {i j : Int} {H : Hp} {Q : VK} : uMinA [.int i, .int j] H Q = Q (.int (min i j)) H := rfl
theorem uMinA_2 {p : Addr} {H : Hp} {Q : VK} : uMinA [.ref p] H Q = ∃ ns : List Int, H p = some (.lst (ns.map V.int)) ∧ ns ≠ [] ∧ Q (.int (minL ns)) H := rfl
theorem rdB1 : type_of% @rIZip ∧ type_of% @rIRng2 ∧ type_of% @uSum_0 ∧ type_of% @uMaxA_0 ∧ type_of% @uMaxA_1 ∧ type_of% @uMaxA_2 ∧ type_of% @uMinA_0 ∧ type_of% @uMinA_2 := ⟨@rIZip, @rIRng2, @uSum_0, @uMaxA_0, @uMaxA_1, @uMaxA_2, @uMinA_0, @uMinA_2⟩
theorem loop_zip {a b : Addr} {xs ys : List V} (Pv : Nat → St → Hp → Prop) (hle : xs.length ≤ ys.length ∨ ys.length ≤ xs.length) (h0 : Pv 0 σ H) (hl : ∀ i σ H, i ≤ min xs.length ys.length → Pv i σ H → H a = some (.lst xs) ∧ H b = some (.lst ys))
    (hs : ∀ i x y σ H p, xs[i]? = some x → ys[i]? = some y → Pv i σ H → H p = none → g (.ref p) σ (upd H p (.tup [x, y])) fun σ2 H2 => tb { D with nx := Pv (i + 1), ct := Pv (i + 1), bk := D.nx } σ2 H2) (hd : ∀ σ H, Pv (min xs.length ys.length) σ H → D.nx σ H) : LoopP (Itz K a b) g tb D σ H := by
  refine ⟨fun i m σ H => m = min xs.length ys.length - i ∧ i ≤ min xs.length ys.length ∧ Pv i σ H, ⟨_, rfl, Nat.zero_le _, h0⟩, ?_⟩
  rintro i m σ H ⟨rfl, hi, p⟩
  obtain ⟨qa, qb⟩ := hl i σ H hi p
  by_cases hlt : i < min xs.length ys.length
  · have e1 : xs[i]? = some (xs[i]'(by omega)) := List.getElem?_eq_getElem _
    have e2 : ys[i]? = some (ys[i]'(by omega)) := List.getElem?_eq_getElem _
    refine .inr ⟨⟨xs, ys, _, _, SqL.of qa, SqL.of qb, e1, e2⟩, Pv (i + 1), fun σ' H' p' => ⟨_, by omega, rfl, hlt, p'⟩, fun x H' y => ?_⟩
    obtain ⟨t, x, y, ht, hx, hy, e1, e2⟩ := y
    subst e1 e2
    exact hs i x y σ H t (hx xs (SqL.of qa)) (hy ys (SqL.of qb)) p ht
  · have e : i = min xs.length ys.length := by omega
    subst e
    exact .inl ⟨⟨xs, ys, SqL.of qa, SqL.of qb, by omega⟩, hd σ H p⟩
theorem comp_zip {a b : Addr} {xs ys : List V} {Q : VK} {k : Nat} {caps : List Nat} {tt : TT} {te : TE} (Pv : Nat → List V → Hp → Prop) (h0 : Pv 0 [] H) (hl : ∀ i zs H, i ≤ min xs.length ys.length → Pv i zs H → H a = some (.lst xs) ∧ H b = some (.lst ys) ∧ zs.length ≤ i) (hz : min xs.length ys.length ≤ 100000)
    (hs : ∀ i x y zs H p (N : List V → Hp → Prop), xs[i]? = some x → ys[i]? = some y → Pv i zs H → H p = none → (∀ zs' H', Pv (i + 1) zs' H' → N zs' H') → g (.ref p) (capS k caps σ) (upd H p (.tup [x, y])) fun σ2 H2 => tt σ2 H2 fun b H3 => if b = true then te σ2 H3 fun v H4 => N (zs ++ [v]) H4 else N zs H3)
    (hd : ∀ zs H p, Pv (min xs.length ys.length) zs H → H p = none → Q (.ref p) (upd H p (.lst zs))) :
    tCompK k caps g tt te σ Q (Itz K a b) H := by
  refine ⟨fun i m zs H => m = min xs.length ys.length - i ∧ i ≤ min xs.length ys.length ∧ Pv i zs H, ⟨_, rfl, Nat.zero_le _, h0⟩, ?_⟩
  rintro i m zs H ⟨rfl, hi, p⟩
  obtain ⟨qa, qb, ql⟩ := hl i zs H hi p
  by_cases hlt : i < min xs.length ys.length
  · have e1 : xs[i]? = some (xs[i]'(by omega)) := List.getElem?_eq_getElem _
    have e2 : ys[i]? = some (ys[i]'(by omega)) := List.getElem?_eq_getElem _
    refine .inr ⟨⟨xs, ys, _, _, SqL.of qa, SqL.of qb, e1, e2⟩, small1 (by omega), fun x H' y => ?_⟩
    obtain ⟨t, x, y, ht, hx, hy, e1, e2⟩ := y
    subst e1 e2
    exact hs i x y zs H t (fun zs' H' => ∃ m', m' < min xs.length ys.length - i ∧ (m' = min xs.length ys.length - (i + 1) ∧ i + 1 ≤ min xs.length ys.length ∧ Pv (i + 1) zs' H')) (hx xs (SqL.of qa)) (hy ys (SqL.of qb)) p ht fun zs' H' z => ⟨_, by omega, rfl, hlt, z⟩
  · have e : i = min xs.length ys.length := by omega
    subst e
    exact .inl ⟨⟨xs, ys, SqL.of qa, SqL.of qb, by omega⟩, fun pp hp => hd zs H pp p hp⟩
end
end L2

namespace L2
open PySem PySem.Spec PyProof.Rows

/-! ### name = [comprehension]: the store comes ahead of the block's end -/
section
variable {X : Cx} {elt iter tg : Expr} {ifs : List Expr} {scope : Scope} {pos pos2 pos' : Pos} {own capn : List Str} {caps : List Nat} {wi : TI} {g : TG} {tt : TT} {te : TE} {k : Nat} {x : Str}
theorem ps_setC (hc : X.calm = true) (S : CompSc X scope own capn caps) (hi : PI X tg iter wi)
    (hg : ∀ cl C fp s H, PG (blockCx X scope (own ++ capn) cl C fp s H) tg g) (ht : ∀ cl C fp s H, PTs (blockCx X scope (own ++ capn) cl C fp s H) ifs tt)
    (he : ∀ cl C fp s H, PE (blockCx X scope (own ++ capn) cl C fp s H) elt te) (hN : X.N.Nodup) (hk : X.N[k]? = some x) (hx : Loc X.env.scope x) (hs : ∀ x, foldedSetIterable iter X.env x = pure x := by intro _; rfl)
    (hsw : swapsWith (.ListComp elt [⟨tg, iter, ifs, 0⟩] scope pos) (some (.Name x pos')) pos2.line X.env = pure true := by rfl) (hf : X.fn x = true ∨ X.env.scope.names.lookup x = some .local := by first | exact .inl rfl | exact .inr rfl | assumption) :
    PS X (.Assign [.Name x pos'] (.ListComp elt [⟨tg, iter, ifs, 0⟩] scope pos) pos2) (tAsg (tComp own.length caps wi g tt te) (gName k)) := by
  intro pins s σ H DD I h
  rw [exec_Assign_Name_used _ _ _ _ hsw]
  refine wpAny_bind (wpAny_standAt (wpAny_bind ?_))
  show wpAny _ _ (comprehension (.ListComp elt [⟨tg, iter, ifs, 0⟩] scope pos) scope X.env _ (newList []) false (eval iter X.env) (some (assign (.Name x pos') X.env)) >>= fun _ => pure ()) _ _ s
  refine wpAny_bind ?_
  refine wpAny_comprehension_free (use := some (assign (.Name x pos') X.env)) (Q := fun _ s' => wpAny (model X.prog X.w) X.A (pure ()) (fun _ s'' => wpAny (model X.prog X.w) X.A (pure Flow.next) (SP X pins DD) X.xe s'') X.xe s') rfl hs (closureFor_cl (S.has I)) S.kind S.names (thn (hi pins s σ H _ I h) fun v s1 h1 => thn h1 fun itv s2 h2 => ?_)
  obtain ⟨it, fp, tn, J, H2, e, I2, T, st2, f2, W, ⟨m0, w0⟩, turn⟩ := h2
  subst e
  have hob : ∀ b ∈ fp, b < s2.heap.objs.size := fun b hb => by
    obtain ⟨o, e, _⟩ := T.obj _ _ st2 b hb
    exact Heap.lt_size e
  refine wpAny_newObj_type (wpAny_newFunctionEnv S.cell (by intro y hy; simp at hy) (fun h₁ hns₁ hsb₁ => ?_) S.kind)
  dsimp only at hns₁ hsb₁ ⊢
  generalize hHh : s2.heap.push { cls := .type "list", dict := none, data := .seq ([] : List Value).toArray } = Hh at hns₁ hsb₁ ⊢
  have hCs : Hh.objs.size = s2.heap.objs.size + 1 := by rw [← hHh, Heap.size_push]
  have hCle : s2.heap.objs.size ≤ Hh.objs.size := by rw [hCs]; exact Nat.le_succ _
  have hDC : s2.heap.objs.size ≠ Hh.objs.size := by rw [hCs]; exact Nat.ne_of_lt (Nat.lt_succ_self _)
  have below : ∀ b, b < s2.heap.objs.size → b ≠ Hh.objs.size ∧ b ≠ s2.heap.objs.size := fun b hb => ⟨by rw [hCs]; exact Nat.ne_of_lt (Nat.lt_succ_of_lt hb), Nat.ne_of_lt hb⟩
  have old : ∀ b o, s2.heap.get? b = some o → h₁.get? b = some o := fun b o e => hsb₁.extBut b o (below b (Heap.lt_size e)).1 (Heap.get?_push_of_some _ (hHh ▸ Heap.get?_push_of_some _ e))
  have hacc : h₁.get? s2.heap.objs.size = some (lstO []) := hsb₁.extBut _ _ hDC (Heap.get?_push_of_some _ (hHh ▸ Heap.get?_push_size _ rfl))
  have hDf : s2.heap.objs.size ∉ fp := fun z => Nat.lt_irrefl _ (hob _ z)
  have nD : ∀ {H' : Hp}, (∀ b ∈ fp, H' b = none) → ∀ {vs : List Value}, ∀ b ∈ fp, FpOk (blockCx X scope (own ++ capn) (clOf X.env scope.names []) Hh.objs.size fp s2 H2) [(s2.heap.objs.size, lstO vs)] H' b := fun {H'} hn {vs} b hb =>
    ⟨hn b hb, (below b (hob b hb)).1, fun z => by
        rcases List.mem_cons.mp (I2.stkSub b z) with e | e
        · exact (f2 b hb).2.1 e
        · exact (f2 b hb).2.2.1 e, .inl hb, fun x c e => (f2 b hb).2.2.2.2.1 x c ((S.cl I2).1 x c e), fun p hp => by
        have ep : p = (s2.heap.objs.size, lstO vs) := by simpa using hp
        subst ep
        exact Ne.symm (below b (hob b hb)).2⟩
  have cD : ∀ x c, (clOf X.env scope.names []).lookup x = some c → c ≠ s2.heap.objs.size := fun x c e z => by
    obtain ⟨v, q⟩ := I2.cell x c ((S.cl I2).1 x c e)
    exact absurd q.lt (by rw [z]; exact Nat.lt_irrefl _)
  have nfs : s2.heap.objs.size ∉ frs X.stack := fun z => by
    rcases List.mem_cons.mp (I2.stkSub _ z) with e | e
    · exact absurd I2.lt (by rw [← e]; exact Nat.lt_irrefl _)
    · exact I2.nofs (Nat.le_refl _) e
  have pinD : ∀ {σ' : St} {H' : Hp} {s' : Shared} {vs : List Value}, Inv (blockCx X scope (own ++ capn) (clOf X.env scope.names []) Hh.objs.size fp s2 H2) [] σ' H' s' → s'.heap.get? s2.heap.objs.size = some (lstO vs) → H' s2.heap.objs.size = none →
      Inv (blockCx X scope (own ++ capn) (clOf X.env scope.names []) Hh.objs.size fp s2 H2) [(s2.heap.objs.size, lstO vs)] σ' H' s' := fun {σ' H' s' vs} J e n =>
    J.pins_of fun p hp => by
      have ep : p = (s2.heap.objs.size, lstO vs) := by simpa using hp
      subst ep
      exact ⟨e, n, hDC, nfs, fun v z => by
        have z' : Data.seq _ _ = Data.cell v := z
        cases z'⟩
  have hI0 := blockInv (own := own) (capn := capn) (caps := caps) (tk := s2.toks + ([] : List (Str × Value)).length) S I2 f2 hob hCle old hns₁
  have loop : ∀ s3 : Shared, s3 = { s2 with heap := h₁, toks := s2.toks + ([] : List (Str × Value)).length } →
      codeAny (model X.prog X.w) X.A (.compLoop (.ListComp elt [⟨tg, iter, ifs, 0⟩] scope pos) 0 (.ref it) (.ref s2.heap.objs.size) (compEnvC scope (clOf X.env scope.names []) Hh.objs.size X.env))
        (compPost (model X.prog X.w) X.A X.xe (some (assign (.Name x pos') X.env)) (fun _ s' => wpAny (model X.prog X.w) X.A (pure ()) (fun _ s'' => wpAny (model X.prog X.w) X.A (pure Flow.next) (SP X pins DD) X.xe s'') X.xe s') (.ref s2.heap.objs.size) Hh.objs.size) s3 := by
    rintro s3 rfl
    refine codeAny_loop rfl (fun n s' => ∃ i ys vs H', Inv (blockCx X scope (own ++ capn) (clOf X.env scope.names []) Hh.objs.size fp s2 H2) [] (capS own.length caps σ) H' s' ∧ tn i s'.heap ∧ (∀ b ∈ fp, H' b = none) ∧
      s'.heap.get? s2.heap.objs.size = some (lstO vs) ∧ H' s2.heap.objs.size = none ∧ Vals ys vs ∧ ys.length ≤ sizeLine ∧ W i n ys H') ?_ m0
      ⟨0, [], [], H2, hI0, T.keep _ _ _ st2 (fun b hb o e => old b o e), fun b hb => (f2 b hb).1, hacc, I2.hok.fresh (Nat.le_refl _), .nil, Nat.zero_le _, w0⟩
    rintro n s3 ⟨i, ys, vs, H3, I3, st3, fr3, hD3, hDn3, rv3, hz3, w3⟩
    show wpAny _ X.A ((compTurn (.ListComp elt [⟨tg, iter, ifs, 0⟩] scope pos) 0 (.ref it) (.ref s2.heap.objs.size) (compEnvC scope (clOf X.env scope.names []) Hh.objs.size X.env)).onRaise (fun x => do noteFrame x (compEnvC scope (clOf X.env scope.names []) Hh.objs.size X.env); theTreesLotGoes x)) _ _ s3
    refine wpAny_noted ?_
    rw [compTurn_list]
    have I3' := pinD I3 hD3 hDn3
    rcases turn i n ys H3 w3 with ⟨stop, fin⟩ | ⟨go, hlt, step⟩
    · refine wpAny_bind (wpAny_standAt (wpAny_bind (thn (T.done (blockCx X scope (own ++ capn) (clOf X.env scope.names []) Hh.objs.size fp s2 H2) rfl rfl rfl hc i _ s3 _ H3 _ I3' (nD fr3) st3 stop) fun r s4 ⟨hr, I4⟩ => ?_)))
      subst hr
      refine wpAny_pure ?_
      obtain ⟨m, hm, _⟩ := id I4.loc
      have pD := I4.pin (s2.heap.objs.size, lstO vs) (List.mem_append_right _ (by simp))
      show wpAny _ _ (assign (.Name x pos') X.env (.ref s2.heap.objs.size)) _ _ s4
      have lt2 : ∀ b o, s2.heap.get? b = some o → b < s2.heap.objs.size := fun b o e => Heap.lt_size e
      have u : Un (frs X.stack) fp H2 (upd H3 s2.heap.objs.size (.lst ys)) s2.heap s4.heap :=
        { keep := fun b o e n hb hx => I4.base.keep b o e n hb hx
          slot := fun b o e n hb hx => by
            obtain ⟨sl, q⟩ := I4.base.slot b o e n hb hx
            exact ⟨sl, q⟩
          free := fun b o e n hx => by
            rw [upd_ne (below b (lt2 b o e)).2]
            exact I4.base.free b o e n hx
          there := fun b o e hx => by
            obtain ⟨o', q⟩ := I4.base.there b o e hx
            exact ⟨o', q⟩
          tups := fun b xs e => by
            have q := I4.base.tups b xs e
            rw [upd_ne (ne_of_none q hDn3)]; exact q
          frzs := fun b o u e => by
            have q := I4.base.frzs b o u e
            rw [upd_ne (ne_of_none q hDn3)]; exact q
          tbls := fun b ps e => by
            obtain ⟨more, q⟩ := I4.base.tbls b ps e
            exact ⟨more, by rw [upd_ne (ne_of_none q hDn3)]; exact q⟩ }
      have hok : HOk X.prog X.w (upd H3 s2.heap.objs.size (.lst ys)) s4.heap := fun b o q => by
        by_cases hb : b = s2.heap.objs.size
        · subst hb
          rw [upd_same] at q
          cases q
          exact ⟨hz3, vs, vs.length, rv3, pD.1⟩
        · rw [upd_ne hb] at q
          refine (I4.hok b o q).stay (fun c v hc' q' => q') (fun c q' => by rw [upd_ne (ne_of_none q' hDn3)]; exact q') (fun c xs q' => by rw [upd_ne (ne_of_none q' hDn3)]; exact q')
      have I6 : Inv X pins σ (upd H3 s2.heap.objs.size (.lst ys)) s4 := I2.call' (ch := fp) I4.os u hok I4.bare (fun b hb => ⟨(f2 b hb).2.2.2.1, (f2 b hb).2.1, (f2 b hb).2.2.2.2.1, (f2 b hb).2.2.2.2.2⟩)
      have hCl : Hh.objs.size ≠ X.env.locals := Nat.ne_of_gt (Nat.lt_of_lt_of_le I2.lt hCle)
      have cC : ∀ x c, X.env.cells.lookup x = some c → c ≠ Hh.objs.size := fun x c e z => by
        obtain ⟨v, q⟩ := I2.cell x c e
        exact absurd (Nat.lt_of_lt_of_le q.lt hCle) (by rw [z]; exact Nat.lt_irrefl _)
      have fC : (upd H3 s2.heap.objs.size (.lst ys)) Hh.objs.size = none := by rw [upd_ne (Ne.symm hDC)]; exact I4.free
      refine wpAny_assign_Name (store_ok2 I6 hN hk hx (v := .ref s2.heap.objs.size) rfl (fun s7 I7 ⟨a, hsa, ha⟩ => ?_) hf)
      have hne : Hh.objs.size ≠ a := by
        rcases ha with z | z
        · rw [z]; exact hCl
        · exact Ne.symm (cC _ _ z)
      refine ⟨m, hm.extBut hsa.extBut hne, fun h' hsb => wpAny_pure (wpAny_pure ⟨_, _, I7.turned (t' := s7.toks) (it := Hh.objs.size) (fun b o hb e => (hsb.2 b hb).trans e) fC hCl (.inr (Nat.le_trans I2.sz hCle)) cC (fun p hp z => ?_), fin _ hDn3⟩)⟩
      have q := (I2.pin p hp).1
      exact absurd (Heap.lt_size q) (by rw [z]; exact Nat.not_lt.mpr hCle)
    · refine wpAny_bind (wpAny_standAt (wpAny_bind (thn (T.item (blockCx X scope (own ++ capn) (clOf X.env scope.names []) Hh.objs.size fp s2 H2) rfl rfl rfl hc i _ s3 _ H3 _ I3' (nD fr3) st3 go) fun r s4 ⟨u, hr, h4⟩ => ?_)))
      subst hr
      refine wpAny_bind (thn h4 fun _ s5 ⟨x, H5, I5, r5, y5, st5, fr5⟩ => ?_)
      have I5' := I5.pinned (nD fr5) (T.obj _ _ st5)
      refine wpAny_bind (nx (hg _ _ _ _ _ _ s5 _ H5 x u _ I5' r5 (step x H5 y5)) fun _ s6 ⟨σ6, H6, I6, q6⟩ => ?_)
      refine wpAny_bind (nx (ht _ _ _ _ _ _ s6 σ6 H6 _ I6 q6) fun ok s7 ⟨H7, I7, q7⟩ => ?_)
      have back : ∀ {σ8 : St} {H8 : Hp} {s8 : Shared} {h9 : Heap}, Inv (blockCx X scope (own ++ capn) (clOf X.env scope.names []) Hh.objs.size fp s2 H2) ([(s2.heap.objs.size, lstO vs)] ++ pinsAt fp s5.heap) σ8 H8 s8 →
          (∀ b o, b ≠ s2.heap.objs.size → s8.heap.get? b = some o → h9.get? b = some o) →
          Inv (blockCx X scope (own ++ capn) (clOf X.env scope.names []) Hh.objs.size fp s2 H2) [] (capS own.length caps σ) H8 { s8 with heap := h9 } ∧ tn (i + 1) h9 ∧ (∀ b ∈ fp, H8 b = none) ∧ H8 s2.heap.objs.size = none := fun {σ8 H8 s8 h9} I8 k9 => by
        have pD := I8.pin (s2.heap.objs.size, lstO vs) (List.mem_append_right _ (List.mem_append_left _ (by simp)))
        have I9 : Inv (blockCx X scope (own ++ capn) (clOf X.env scope.names []) Hh.objs.size fp s2 H2) [] σ8 H8 s8 := I8.pins_of fun p hp => by simp at hp
        refine ⟨blockReset S I2 f2 (I9.turned (t' := s8.toks) k9 pD.2.1 hDC (.inr (Nat.le_refl _)) cD (fun p hp => by simp at hp)), T.keep _ _ _ st5 fun b hb o e => ?_, fun b hb => ?_, pD.2.1⟩
        · exact k9 b o (below b (hob b hb)).2 (I8.pin (b, o) (List.mem_append_right _ (List.mem_append_right _ (mem_pinsAt hb e)))).1
        · obtain ⟨o, e, d⟩ := T.obj _ _ st5 b hb
          exact (I8.pin (b, o) (List.mem_append_right _ (List.mem_append_right _ (mem_pinsAt hb e)))).2.1
      cases ok with
      | false =>
        rw [if_neg Bool.false_ne_true] at q7
        obtain ⟨m', hm, w7⟩ := q7
        obtain ⟨B1, B2, B3, B4⟩ := back (h9 := s7.heap) I7 fun _ _ _ e => e
        have pD := I7.pin (s2.heap.objs.size, lstO vs) (List.mem_append_right _ (List.mem_append_left _ (by simp)))
        exact wpAny_pure ⟨rfl, m', hm, i + 1, ys, vs, H7, B1, B2, B3, pD.1, B4, rv3, hz3, w7⟩
      | true =>
        rw [if_pos rfl] at q7
        refine wpAny_bind (wpAny_bind (nx (he _ _ _ _ _ _ s7 σ6 H7 _ I7 q7) fun u8 s8 ⟨v8, H8, I8, r8, m', hm, w8⟩ => ?_))
        have pD := I8.pin (s2.heap.objs.size, lstO vs) (List.mem_append_right _ (List.mem_append_left _ (by simp)))
        have hlen := rv3.length
        refine wpAny_bind (append_at (its := vs.toArray) (n := vs.length) (hsz := by rw [List.size_toArray]; omega) pD.1 fun h9 hs9 hD9 => ?_)
        obtain ⟨B1, B2, B3, B4⟩ := back (h9 := h9) I8 fun b o hb e => (hs9.2 b hb).trans e
        exact wpAny_pure (wpAny_pure ⟨rfl, m', hm, i + 1, ys ++ [v8], vs ++ [u8], H8, B1, B2, B3, hD9.trans (congrArg some (lstO_snoc vs u8)), B4, rv3.snoc r8, by rw [List.length_append, List.length_singleton]; omega, w8⟩)
  exact codeAny_compStart_list (loop _ rfl) (T.self _ 0 _ _ _ (T.keep _ _ _ st2 (fun b hb o e => old b o e)) (loop _ rfl))
end
end L2

namespace L2
open PySem PySem.Spec PyProof.Rows

/-! ### max(list of ints, default = d) -/
theorem maxL_snoc (xs : List Int) (x : Int) (h : xs ≠ []) : maxL (xs ++ [x]) = max (maxL xs) x := by
  have s := maxL_spec xs h
  refine (best_max ?_ fun n hn => ?_).symm
  · by_cases hx : x ≤ maxL xs
    · rw [Int.max_eq_left hx]; exact List.mem_append_left _ s.1
    · rw [Int.max_eq_right (by omega)]; exact List.mem_append_right _ (List.mem_singleton.mpr rfl)
  · rcases List.mem_append.mp hn with hn | hn
    · have := s.2 n hn; omega
    · rw [List.mem_singleton.mp hn]; omega
/-- what is told: the greatest, or what was handed in for none -/
def MaxD (ns : List Int) (d v : Value) : Prop := (ns = [] ∧ v = d) ∨ (ns ≠ [] ∧ ∃ t, v = Value.int (maxL ns) t)
section
variable {prog : Program} {w : World} {A : Around} {R : Result → Shared → Prop} {it l S : Addr} {its : Array Value} {ns : List Int} {d : Value}
theorem maxd_loop (hh : A.in1.handled = none) (hsz : its.size = ns.length) (hv : ∀ (i : Nat) (v : Value), its[i]? = some v → ∃ t, v = Value.int (ns.getD i 0) t) (hl : l ≠ it) (hS1 : S ≠ it) (hS2 : S ≠ l) :
    ∀ (k j : Nat) (s : Shared) (old : Array Value) (c : Nat), ns.length = j + k → (s.heap.IsListIter it l j ∧ s.heap.IsList l its) → ((j = 0 ∧ old = #[]) ∨ (j ≠ 0 ∧ ∃ t, old = #[Value.int (maxL (ns.take j)) t, Value.int (maxL (ns.take j)) t])) →
    s.heap.get? S = some { cls := .type "list", dict := none, data := .seq old c, slots := #[] } →
    (∀ v h' tk, MaxD ns d v → (∀ b o, b ∉ [it] → b ≠ S → s.heap.get? b = some o → h'.get? b = some o) → R (.ok (.ret v)) { s with heap := h', toks := tk }) →
    codeAny (model prog w) A (.builtin "max.loop" ⟨[.ref it, .none, .ref S], [("default", d)]⟩) R s := by
  have W := Walks.list (prog := prog) (w := w) (A := A.in1) hh it l hl its
  have hnm : (toString "max" ++ toString ".loop" : String) = "max.loop" := by decide
  have hSf : S ∉ [it, l] := by simp [hS1, hS2]
  have hSw : S ∉ [it] := by simp [hS1]
  intro k
  induction k with
  | zero =>
    intro j s old c hk st hold hS hR
    have hj : its.size = j := by omega
    refine codeAny_builtin F.entry_max_loop ?_; rw [Around.under_plainId F.plain_max_loop _]
    refine wpAny_bind (m := seqItems? (.ref S)) (wpAny_seqItems hS rfl ?_)
    refine wpAny_bind (m := tryCatch (pyNext (.ref it)) _) (wpAny_tryCatch (W.done s _ _ (by rw [hj]; exact st) fun h' tk hk' => ?_))
    have hS' := hk' S _ hSw hS
    rcases hold with ⟨hj0, rfl⟩ | ⟨hj0, t, rfl⟩
    · refine wpAny_bind (wpAny_rule (wpAny_pure ?_))
      exact hR d h' tk (.inl ⟨List.eq_nil_of_length_eq_zero (by omega), rfl⟩) fun b o hb _ e => hk' b o hb e
    · refine wpAny_bind (m := updateSeq S fun _ => #[]) (wpAny_updateSeq hS' rfl (wpAny_bind (wpAny_letGo (wpAny_pure ?_))))
      refine hR _ _ tk (.inr ⟨fun e => by rw [e] at hk; simp at hk; omega, t, ?_⟩) fun b o hb hbS e => (Heap.get?_update_other _ _ (Ne.symm hbS)).trans (hk' b o hb e)
      rw [List.take_of_length_le (by omega)]
  | succ k ih =>
    intro j s old c hk st hold hS hR
    refine codeAny_builtin F.entry_max_loop ?_; rw [Around.under_plainId F.plain_max_loop _]
    refine wpAny_bind (m := seqItems? (.ref S)) (wpAny_seqItems hS rfl ?_)
    refine wpAny_bind (m := tryCatch (pyNext (.ref it)) _) (wpAny_tryCatch (W.item j s _ _ (by omega) st fun v h' tk hP st' hk' => ?_))
    have hS' := hk' S _ hSw hS
    obtain ⟨t, rfl⟩ := hv j v hP
    have ej : ns[j]? = some (ns[j]'(by omega)) := List.getElem?_eq_getElem _
    have et : ns.take (j + 1) = ns.take j ++ [ns.getD j 0] := by rw [List.take_add_one, ej, List.getD_eq_getElem?_getD, ej]; rfl
    have fr : ∀ x : Obj → Obj, (Heap.update h' S x).IsListIter it l (j + 1) ∧ (Heap.update h' S x).IsList l its := fun x => W.frame _ _ _ st' fun b hb o e => (Heap.get?_update_other _ _ (fun z : S = b => hSf (by rw [z]; exact hb))).trans e
    have kk : ∀ (x : Obj → Obj) b o, b ∉ [it] → b ≠ S → s.heap.get? b = some o → (Heap.update h' S x).get? b = some o := fun x b o hb hbS e => (Heap.get?_update_other _ _ (Ne.symm hbS)).trans (hk' b o hb e)
    rcases hold with ⟨hj0, rfl⟩ | ⟨hj0, u, rfl⟩
    · refine wpAny_bind (m := updateSeq S fun _ => #[_, _]) (wpAny_updateSeq hS' rfl ?_); rw [hnm]
      refine wpAny_pure ⟨plainId_quiet F.plain_max_loop _, ih (j + 1) _ _ _ (by omega) (fr _) (.inr ⟨by omega, t, ?_⟩) (Heap.get?_update_self _ hS' rfl) fun v' h'' tk'' m q => hR v' h'' tk'' m fun b o hb hbS e => q b o hb hbS (kk _ b o hb hbS e)⟩
      rw [et, hj0]; rfl
    · have em : maxL (ns.take (j + 1)) = max (maxL (ns.take j)) (ns.getD j 0) := by rw [et, maxL_snoc _ _ (fun e => hj0 (by have := congrArg List.length e; rw [List.length_take, List.length_nil] at this; omega))]
      refine wpAny_bind (m := tryCatch (holding [_, _] (richCompare .Gt _ _ >>= _)) _) (wpAny_tryCatch (wpAny_holding (wpAny_bind (richCompare_gives (op := .Gt) (typeIs_int _ _ t) (typeIs_int _ _ u) F.slot_int_gt F.entry_int_gt (F.args_int_gt_2 _ _) (gives_int_gt _ _ t u) (fun x => nomatch x) ?_))))
      refine wpAny_bind (wpAny_holding (wpAny_truthy_bool (wpAny_bind (wpAny_letGo (wpAny_pure ?_)))))
      by_cases hb : ns.getD j 0 > maxL (ns.take j)
      · rw [if_pos (decide_eq_true hb)]
        refine wpAny_bind (wpAny_updateSeq hS' rfl (wpAny_bind (wpAny_letGo ?_))); rw [hnm]
        refine wpAny_pure ⟨plainId_quiet F.plain_max_loop _, ih (j + 1) _ _ _ (by omega) (fr _) (.inr ⟨by omega, t, ?_⟩) (Heap.get?_update_self _ hS' rfl) fun v' h'' tk'' m q => hR v' h'' tk'' m fun b o hb hbS e => q b o hb hbS (kk _ b o hb hbS e)⟩
        rw [em, Int.max_eq_right (by omega)]
      · rw [if_neg (by simpa using hb)]
        refine wpAny_bind (wpAny_letGo ?_); rw [hnm]
        refine wpAny_pure ⟨plainId_quiet F.plain_max_loop _, ih (j + 1) _ _ _ (by omega) st' (.inr ⟨by omega, u, ?_⟩) hS' fun v' h'' tk'' m q => hR v' h'' tk'' m fun b o hb hbS e => q b o hb hbS (hk' b o hb e)⟩
        rw [em, Int.max_eq_left (by omega)]
theorem args_maxD (a d : Value) : argsOk "max" ⟨[a], [("default", d)]⟩ := by unfold argsOk; kernel_rfl
theorem call_maxD {E : Value → Shared → Prop} {Q : Value → Shared → Prop} {p : Addr} {s : Shared} (hh : A.handled = none) (hl : s.heap.IsList p its) (hsz : its.size = ns.length) (hv : ∀ (i : Nat) (v : Value), its[i]? = some v → ∃ t, v = Value.int (ns.getD i 0) t) (hp : p < s.heap.objs.size)
    (h : ∀ v h' tk, MaxD ns d v → (∀ b o, s.heap.get? b = some o → h'.get? b = some o) → Q v { s with heap := h', toks := tk }) : wpAny (model prog w) A (call (.builtin "max") [.ref p] [("default", d)]) Q E s := by
  have hnm : (toString "max" ++ toString ".loop" : String) = "max.loop" := by decide
  refine wpAny_call (codeAny_call_builtin F.plain_max F.entry_max ?_)
  simp only [checkBuiltinCall, F.kind_max]
  have body : wpAny (model prog w) A.in1 (Builtin.«max» ⟨[.ref p], [("default", d)]⟩) (fun fin s' => match fin with
      | .done f => (match (Except.ok f : Result) with | .ok (.ret v) => Q v s' | .ok _ => False | .error e => E e s')
      | .again c' => c'.quiet = true ∧ codeAny (model prog w) A c' (fun r s' => match r with | .ok (.ret v) => Q v s' | .ok _ => False | .error e => E e s') s') E s := by
    show wpAny _ A.in1 (Builtin.Builtins.bindParams "max" ["key", "default"] 0 ⟨[], [("default", d)]⟩ >>= _) _ _ s
    refine wpAny_bind (wpAny_of_eq (show Builtin.Builtins.bindParams "max" ["key", "default"] 0 ⟨[], [("default", d)]⟩ = pure [none, some d] from rfl) (wpAny_bind (wpAny_pure ?_)))
    refine wpAny_bind (wpAny_pyIter_list hl (wpAny_bind (wpAny_newObj_type ?_))); rw [hnm]
    have z1 : (s.heap.push { cls := .type "list_iterator", data := .fields #[.ref p, .int 0 0] }).objs.size = s.heap.objs.size + 1 := Heap.size_push ..
    refine wpAny_pure ⟨plainId_quiet F.plain_max_loop _, maxd_loop (it := s.heap.objs.size) (l := p) (its := its) (ns := ns) hh hsz hv (Nat.ne_of_lt hp) (by rw [z1]; exact nn (by omega)) (by rw [z1]; exact nn (.inr (Nat.lt_succ_of_lt hp))) ns.length 0 _ #[] _ (by omega) ⟨⟨_, Heap.get?_push_of_some _ (Heap.get?_push_size _ rfl), rfl, rfl⟩, (hl.push _).push _⟩ (.inl ⟨rfl, rfl⟩) (Heap.get?_push_size _ rfl) fun v h' tk m kk => ?_⟩
    refine h v h' tk m fun b o e => kk b o ?_ ?_ (Heap.get?_push_of_some _ (Heap.get?_push_of_some _ e))
    · have := Heap.lt_size e
      simp only [List.mem_singleton]
      exact Nat.ne_of_lt this
    · have := Heap.lt_size e
      rw [z1]; exact nn (.inl (Nat.lt_succ_of_lt this))
  cases hsig : Manifest.signature? "max" with
  | none => exact wpAny_pure body
  | some sig =>
    have ha : Bind.checkArgs "max" sig ⟨[.ref p], [("default", d)]⟩ = pure () := by simpa only [argsOk, hsig] using args_maxD (.ref p) d
    simp only [ha]
    exact wpAny_pure body
end
section
variable {X : Cx} {p pos kpos : Pos} {e k : Expr} {t tk : TA}
/-- max(e, default = k) -/
def uMaxD (vs zs : List V) (H : Hp) (Q : VK) : Prop := ∃ (a : Addr) (ns : List Int) (d : V), vs = [.ref a] ∧ zs = [d] ∧ H a = some (.lst (ns.map V.int)) ∧ Q (if ns = [] then d else .int (maxL ns)) H
def tMaxD (t tk : TA) : TE := fun σ H Q => t σ H fun vs H1 => tk σ H1 fun zs H2 => uMaxD vs zs H2 Q
theorem pe_maxD (hc : X.calm = true) (hg : Gl X "max") (hm : X.mg "max" = none) (ha : PA X [e] t) (hk : PK X [⟨some "default", k, kpos⟩] tk)
    (he : backTo pos (starEach [e] X.env) = (false, eval e X.env) :: backTo pos (starEach [] X.env) := by rfl) (hpl : (backTo pos (starEach [e] X.env)).any (·.1) = false := by rfl) : PE X (.Call (.Name "max" p) [e] [⟨some "default", k, kpos⟩] pos) (tMaxD t tk) := by
  intro pins s σ H Q I h
  refine wpAny_Call_Name_kw (ld_blt I hg hm boot_max ?_)
  refine callWith_kw (thn (ha pos pins s σ H _ I h) fun us s1 ⟨vs, H1, I1, r1, q1⟩ => thn (hk pos pins s1 σ H1 _ I1 q1) fun ws s2 ⟨zs, H2, I2, r2, q2⟩ => ?_) he hpl
  obtain ⟨a, ns, d, rfl, rfl, hq, q⟩ := q2
  obtain ⟨u, rfl, ra⟩ := vals1 r1
  obtain ⟨w', rfl, rd⟩ := vals1 r2
  cases ra
  obtain ⟨its, hl, hsz, hv, hp⟩ := iter_lst I2 hq
  refine call_maxD (d := w') (I2.ok.hd hc) hl hsz hv hp fun v h' tk m kk => ⟨_, H2, I2.kept kk, ?_, q⟩
  rcases m with ⟨e1, e2⟩ | ⟨e1, tt, e2⟩
  · rw [if_pos e1, e2]; exact rd
  · rw [if_neg e1]; exact ⟨tt, e2⟩
theorem rMaxD {σ : St} {H : Hp} {Q : VK} : tMaxD t tk σ H Q = t σ H fun vs H1 => tk σ H1 fun zs H2 => uMaxD vs zs H2 Q := rfl
theorem uMaxD_0 {a : Addr} {d : V} {H : Hp} {Q : VK} : uMaxD [.ref a] [d] H Q = ∃ ns : List Int, H a = some (.lst (ns.map V.int)) ∧ Q (if ns = [] then d else .int (maxL ns)) H := propext ⟨fun ⟨_, ns, _, e1, e2, h, q⟩ => by cases e1; cases e2; exact ⟨ns, h, q⟩, fun ⟨ns, h, q⟩ => ⟨a, ns, d, rfl, rfl, h, q⟩⟩
/-- the greatest of them and 0, for ways from 0 on -/
def max0 (ns : List Int) : Int := if ns = [] then 0 else maxL ns
theorem max0_v {ns : List Int} : (if ns = [] then V.int 0 else .int (maxL ns)) = .int (max0 ns) := by unfold max0; split <;> rfl
theorem rdD1 : type_of% @rMaxD ∧ type_of% @uMaxD_0 ∧ type_of% @max0_v := ⟨@rMaxD, @uMaxD_0, @max0_v⟩
end
end L2

namespace L2
open PySem PySem.Spec PyProof.Rows

/-! ### a lambda p: x[k][p][i], x the def's own name: its call, the heap known to the object -/
section
variable {prog : Program} {w : World} {A : Around} {s : Shared} {env : Env}
/-- the lambda's body, at a state in which x's cell, the two dicts and the tuple are known -/
theorem lam_body {E : Value → Shared → Prop} {x p k : Str} {px pk pp pi p1 p2 p3 : Pos} {jk ji : _} {L c hs db tp : Addr} {m : Str → Option Value} {u : Value} {key : Key} {vs1 vs2 : List (Key × Value)} {its : List Value} {at' : Int} {t : Tok} {n : Nat} {i : Int} {Q : Value → Shared → Prop}
    (hkind : env.scope.kind = .function) (hx : env.kindOf x = some .free) (hc : env.cells.lookup x = some c) (hcell : s.heap.IsCell c (some (.ref hs))) (hp : env.kindOf p = some .local) (hns : s.heap.Ns env.locals m) (hm : m p = some u)
    (d1 : s.heap.DictOf (mixKind prog w) hs vs1) (v1 : valueAt vs1 (Sum.inr k) = some (.ref db)) (d2 : s.heap.DictOf (mixKind prog w) db vs2) (hu : (mixKind prog w).is key u = true) (v2 : valueAt vs2 key = some (.ref tp))
    (t1 : IsTup s.heap tp its.toArray) (hi : its[n]? = some (.int at' t)) (hn : i = (n : Int)) (hl : its.length ≤ sizeLine)
    (hxd : (x == ("__debug__" : Str)) = false) (hxc : (x == ("__classdict__" : Str)) = false) (hpd : (p == ("__debug__" : Str)) = false)
    (h : ∀ tk, Q (.int at' t) { s with toks := tk }) :
    wpAny (model prog w) A (eval (.Subscript (.Subscript (.Subscript (.Name x px) (.Constant (.str k) jk pk) p1) (.Name p pp) p2) (.Constant (.int i) ji pi) p3) env) Q E s := by
  have hns2 : ∀ tk : Nat, Heap.Ns (Shared.heap { s with toks := tk }) env.locals m := fun _ => hns
  have ty : ∀ tk : Nat, ∀ {a : Addr} {vs : List (Key × Value)}, s.heap.DictOf (mixKind prog w) a vs → Shared.TypeIs { s with toks := tk } (.ref a) "dict" := fun tk {a vs} d => by
    obtain ⟨o, es, ep, e, c, _⟩ := d
    exact ⟨o, e, c.1⟩
  refine Subscript_ (subD_of PySem.F.slot_dict_getitem.lookup (fun _ _ => rfl) (subD_of PySem.F.slot_dict_getitem.lookup (fun _ _ => rfl) (wpAny_Name (wpAny_loadName_free hkind hx hc hcell (Calls.Constant_str ⟨ty _ d1, wpAny_getItem_of (mixKind_str prog w k _) d1.mapOf v1 ?_⟩) hxc) hxd)))
  refine wpAny_Name (wpAny_loadName_local hkind hp (hns2 _) hm ⟨ty _ d2, wpAny_getItem_of hu d2.mapOf v2 ?_⟩) hpd
  refine wpAny_Constant_int (subscriptTail_builtinR (x := .int at' t) t1.typeIs slot_tuple_getitem.lookup ?_ rfl)
  have hn' := line63
  subst hn
  have hlt : n < its.length := (List.getElem?_eq_some_iff.mp hi).1
  rw [sizeLine_eq] at hl
  exact getItem_tuple (j := n) t1 (by omega) (by omega) (by rw [List.size_toArray]; exact (ixN_seq (by unfold ixN; rw [if_pos (by omega), if_pos (by omega)]; simp)).1) (by simpa using hi) ⟨rfl, h _⟩
/-- the lambda called: every object of the heap stays as it is -/
theorem lam_call {E : Value → Shared → Prop} {f c c' hs db tp : Addr} {x p k : Str} {px pk pp pi p1 p2 p3 : Pos} {jk ji : _} {nm qual : Str} {params : Arguments} {scope : Scope} {pm ctv u : Value} {key : Key} {vs1 vs2 : List (Key × Value)} {its : List Value} {at' : Int} {t : Tok} {n : Nat} {i : Int} {Q : Value → Shared → Prop}
    (hf : s.heap.get? f = some (PySem.W.kla_obj nm qual params (.Subscript (.Subscript (.Subscript (.Name x px) (.Constant (.str k) jk pk) p1) (.Name p pp) p2) (.Constant (.int i) ji pi) p3) scope [(x, c)] pm c' ctv))
    (hcd : s.heap.CodeRec (.ref c') qual) (hroom : A.depth < recursionLimit) (hlim : s.heap.NoLimit)
    (hco : scope.isCoroutine = false) (hgen : scope.isGenerator = false) (hk : scope.kind = .function) (hnc : ∀ y ∈ scope.names, y.2 ≠ .cell) (hp : scope.names.lookup p = some .local) (hx : scope.names.lookup x = some .free)
    (hbind : bindArgs (PySem.W.kla_fn nm qual params (.Subscript (.Subscript (.Subscript (.Name x px) (.Constant (.str k) jk pk) p1) (.Name p pp) p2) (.Constant (.int i) ji pi) p3) scope [(x, c)] pm (.ref c') ctv) ⟨[u], []⟩ = pure [(p, u)])
    (hcell : s.heap.IsCell c (some (.ref hs))) (d1 : s.heap.DictOf (mixKind prog w) hs vs1) (v1 : valueAt vs1 (Sum.inr k) = some (.ref db)) (d2 : s.heap.DictOf (mixKind prog w) db vs2) (hu : (mixKind prog w).is key u = true) (v2 : valueAt vs2 key = some (.ref tp))
    (t1 : IsTup s.heap tp its.toArray) (hi : its[n]? = some (.int at' t)) (hn : i = (n : Int)) (hl : its.length ≤ sizeLine)
    (hxd : (x == ("__debug__" : Str)) = false) (hxc : (x == ("__classdict__" : Str)) = false) (hpd : (p == ("__debug__" : Str)) = false)
    (h : ∀ h' tk, (∀ b o, s.heap.get? b = some o → h'.get? b = some o) → Q (.int at' t) { s with heap := h', toks := tk }) :
    wpAny (model prog w) A (call (.ref f) [u]) Q E s := by
  refine wpAny_call (PySem.W.kla_callFunE hroom hf rfl hco hgen rfl hcd ?_)
  rw [hbind]
  refine wpAny_pure (wpAny_newFunctionEnv hnc (fun y hy => ?_) (fun h1 hns hsb => ?_) hk)
  · have e : y = (p, u) := by simpa using hy
    subst e; exact hp
  have kk : ∀ b o, s.heap.get? b = some o → h1.get? b = some o := fun b o e => hsb.extBut b o (Nat.ne_of_lt (Heap.lt_size e)) (Heap.get?_push_of_some _ e)
  refine ⟨hlim.keeps kk, PySem.W.kla_codeExpr ?_⟩
  have cell1 : h1.IsCell c (some (.ref hs)) := by obtain ⟨o, e, d⟩ := hcell; exact ⟨o, kk _ _ e, d⟩
  have dd : ∀ {a : Addr} {vs : List (Key × Value)}, s.heap.DictOf (mixKind prog w) a vs → h1.DictOf (mixKind prog w) a vs := fun {a vs} ⟨o, es, ep, e, r⟩ => ⟨o, es, ep, kk _ _ e, r⟩
  have tt : IsTup h1 tp its.toArray := by obtain ⟨o, e, r⟩ := t1; exact ⟨o, kk _ _ e, r⟩
  exact lam_body (s := { s with heap := h1, toks := s.toks + [(p, u)].length }) (L := s.heap.objs.size) hk hx (by simp [newEnv]) cell1 hp hns (by simp) (dd d1) v1 (dd d2) hu v2 tt hi hn hl hxd hxc hpd fun tk => h h1 tk kk
end
end L2

namespace L2
open PySem PySem.Spec PyProof.Rows

/-- what the module's part says of a def's code, whose table of inner codes is at P -/
theorem blt_keeps {h h' : Heap} {mg : Str → Option Value} {P : Addr} (x : h.BuiltinsAt mg P) (k : ∀ b o, h.get? b = some o → h'.get? b = some o) : h'.BuiltinsAt mg P := let ⟨bm, o, a, b, c, d, e, f⟩ := x; ⟨bm, o, a, b, c, d, k _ _ e, f⟩
structure LamK (K : PySem.W.Frag) (mg : Str → Option Value) (base : Heap) (cd : Value) (P : Addr) : Prop where
  code : ∃ c, cd = .ref c ∧ ∀ h : Heap, K.In h → PySem.W.CodeHd h c P
  blt : base.BuiltinsAt mg P
  gP : mainGlobals ≠ P
/-- the table of inner codes: none yet of the lambda at lpos, or its code -/
def LamT (P : Addr) (lpos : Pos) (qual : Str) (H : Hp) : Prop := ∃ ps : Array Value, H P = some (.tbl ps) ∧ TriplesOk ps.toList ∧
  (codeAmong lpos ps.toList = none ∨ ∃ c', codeAmong lpos ps.toList = some (.ref c') ∧ H c' = some (.ext fun h => h.CodeRec (.ref c') qual))
def SameP (P : Addr) (H H' : Hp) : Prop := ∀ b o, H b = some o → b ≠ P → H' b = some o
theorem Fun.okC {P : Program} {w : World} {K : PySem.W.Frag} {mg : Str → Option Value} {base : Heap} {x qual : Str} {st : Stmt} {f : Addr} {fd : FuncData} {N ps : List Str} {k : Nat} {sp : Sp} (F : Fun K x qual st f fd) (S : FnScope N ps (defScope st)) (len : ∀ vs H Q E, sp vs H Q E → vs.length = ps.length)
    (hbody : ∀ (cdv : Value) (A : Around) (outer : List Env) (s : Shared) (H : Hp) (vs : List V) (Q : VK) (E : XK), fd.code = cdv → Room k (A.deeper (envOfC qual (defScope st) s.heap.objs.size f cdv)) → sp vs H Q E →
      ∃ t, PSs (cxOf CX0 P w K mg base N qual (defScope st) f cdv A outer s H E).nox (defBody st) t ∧ t { nx := fun _ H' => Q .non H', rt := Q } (start N vs) H) : FnOk P w K mg base CX0 (k + 1) f fd ps sp := by
  obtain ⟨oc, od, kV, doc, pm, an, cdv, ct, osl, rfl, lk, hcd⟩ := F.ex
  refine fn_of lk hcd S len fun A outer s H vs Q E hr hsp => ?_
  obtain ⟨t, h, q⟩ := hbody cdv A outer s H vs Q E rfl hr hsp
  exact ⟨t, h.nox, q⟩
section
variable {X : Cx} {pins : List (Addr × Obj)} {σ : St} {H : Hp} {s : Shared}
theorem codeRec_stay {c' : Addr} {q : Str} : ∀ h1 h2 : Heap, h1.CodeRec (.ref c') q → (∀ o, h1.get? c' = some o → h2.get? c' = some o) → h2.CodeRec (.ref c') q := fun h1 h2 ⟨c, o, vs, t, e, ho, r⟩ k => by
  cases e
  exact ⟨c', o, vs, t, rfl, k _ ho, r⟩
/-- the lambda is made: its function, its code, the table -/
theorem lam_make {P : Addr} {lpos : Pos} {params : Arguments} {body : Expr} {scope : Scope} {Q : Value → Shared → Prop} (I : Inv X pins σ H s) (LK : LamK X.K X.mg X.base X.env.code P) (T : LamT P lpos (X.env.qual ++ "<lambda>") H)
    (hfree : ∀ y ∈ scope.names, y.2 = .free → X.env.kindOf y.1 = some .cell ∨ X.env.kindOf y.1 = some .free) (hdef : defaultsOf params X.env = ([], []))
    (h : ∀ (f c' : Addr) (pm ctv : Value) (H' : Hp) (s' : Shared), Inv X pins σ H' s' → SameP P H H' → (∀ b, H b = none → s.heap.objs.size ≤ b ∨ H' b = none) → LamT P lpos (X.env.qual ++ "<lambda>") H' → (∀ b o, H b = none → s.heap.get? b = some o → s'.heap.get? b = some o) →
      s'.heap.get? f = some (PySem.W.kla_obj "<lambda>" (X.env.qual ++ "<lambda>") params body scope (clOf X.env scope.names []) pm c' ctv) → s'.heap.CodeRec (.ref c') (X.env.qual ++ "<lambda>") → s'.heap.objs.size = f + 1 → s.heap.objs.size ≤ f → Q (.ref f) s') :
    wpAny (model X.prog X.w) X.A (eval (.Lambda params body scope lpos) X.env) Q X.xe s := by
  obtain ⟨ps, hP, ht, hc⟩ := T
  obtain ⟨c, ec, hC⟩ := LK.code
  have hhP : s.heap.get? P = some (PySem.W.tabObj ps) := I.hok P _ hP
  have hcl := closureFor_cl (env := X.env) (scope := scope) fun y hy hf => I.ok.has y.1 (hfree y hy hf)
  have hg : s.heap.Ns mainGlobals X.mg := I.ok.mod.glob.keeps I.bk
  refine PySem.W.kla_eval hdef ?_
  rcases hc with hnf | ⟨c', hf, hx⟩
  · refine PySem.W.kla_makeFunction (mg := X.mg) hcl I.ok.glob hg ec (hC _ I.kIn) hhP ht hnf LK.gP (blt_keeps LK.blt I.bk) fun c' ctv h' tk hx hge hlt hrec htb => ?_
    have hn' : H c' = none := I.hok.fresh hge
    have hPc : P ≠ c' := Nat.ne_of_lt (Nat.lt_of_lt_of_le (Heap.lt_size hhP) hge)
    have ne : ∀ b o, H b = some o → b ≠ c' := fun b o e => ne_of_none e hn'
    generalize eH : upd (upd H P (.tbl (ps ++ #[rawInt lpos.line, rawInt lpos.col, .ref c']))) c' (.ext fun h => h.CodeRec (.ref c') (X.env.qual ++ "<lambda>")) = H'
    have hP' : H' P = some (.tbl (ps ++ #[rawInt lpos.line, rawInt lpos.col, .ref c'])) := by rw [← eH, upd_ne hPc, upd_same]
    have hc' : H' c' = some (.ext fun h => h.CodeRec (.ref c') (X.env.qual ++ "<lambda>")) := by rw [← eH, upd_same]
    have ho : ∀ b, b ≠ P → b ≠ c' → H' b = H b := fun b h1 h2 => by rw [← eH, upd_ne h2, upd_ne h1]
    have kk : ∀ (o0 : Obj) b o, b ≠ P → s.heap.get? b = some o → (h'.push o0).get? b = some o := fun o0 b o hb e => Heap.get?_push_of_some _ (hx b o hb e)
    have I' : ∀ o0 : Obj, Inv X pins σ H' { s with heap := h'.push o0, toks := tk } := fun o0 => by
      refine I.step (g' := s.gens) (d' := s.drawn) (ch := []) (fun _ z => nomatch z) (fun b o _ _ _ e n => kk o0 b o (fun z => by rw [z, hP] at n; cases n) e) (fun b o _ _ _ e n => ⟨o.slots, kk o0 b o (fun z => by rw [z, hP] at n; cases n) e⟩)
        (fun b o _ e n => by rw [ho b (fun z => by rw [z, hP] at n; cases n) (Nat.ne_of_lt (Nat.lt_of_lt_of_le (Heap.lt_size e) hge))]; exact n) (fun b o _ e => ?_)
        (fun b xs e => by rw [ho b (fun z => by rw [z, hP] at e; cases e) (ne b _ e)]; exact e) (fun b o u e => by rw [ho b (fun z => by rw [z, hP] at e; cases e) (ne b _ e)]; exact e) (fun b qs e => ?_) (fun m hm => ?_) (fun b u e => ?_) I.bare
      · by_cases hb : b = P
        · subst hb; exact ⟨_, Heap.get?_push_of_some _ htb⟩
        · exact ⟨o, kk o0 b o hb e⟩
      · by_cases hb : b = P
        · subst hb
          rw [hP] at e
          cases e
          exact ⟨_, hP'⟩
        · exact ⟨#[], by rw [ho b hb (ne b _ e), e]; simp⟩
      · obtain ⟨o, es, ep, e, r⟩ := hm
        exact ⟨o, es, ep, kk o0 _ o (fun z => by have := I.free; rw [z, hP] at this; cases this) e, r⟩
      · by_cases hb : b = P
        · subst hb
          rw [hP'] at e
          cases e
          exact Heap.get?_push_of_some _ htb
        · by_cases hb2 : b = c'
          · subst hb2
            rw [hc'] at e
            cases e
            refine ⟨codeRec_stay _ _ hrec fun o q => Heap.get?_push_of_some _ q, ?_, codeRec_stay⟩
            obtain ⟨c2, o, vs, t, e2, e3, _⟩ := hrec
            cases e2
            exact ⟨o, Heap.get?_push_of_some _ e3⟩
          · rw [ho b hb hb2] at e
            refine (I.hok b u e).stay (fun d v hd q => kk o0 d v ?_ q) (fun d q => ?_) (fun d xs q => ?_)
            · rcases hd with z | z
              · rw [z]; exact hb
              · intro z2; rw [z2, hP] at z; cases z
            · rw [ho d (fun z => by rw [z, hP] at q; cases q) (ne d _ q)]; exact q
            · rw [ho d (fun z => by rw [z, hP] at q; cases q) (ne d _ q)]; exact q
    refine h _ c' _ ctv H' _ (I' _) (fun b o e hb => by rw [ho b hb (ne b _ e)]; exact e) (fun b hb => ?_) ⟨_, hP', ?_, .inr ⟨c', ?_, hc'⟩⟩ (fun b o n e => kk _ b o (fun z => by rw [z, hP] at n; cases n) e) (Heap.get?_push_size _ rfl) (codeRec_stay _ _ hrec fun o q => Heap.get?_push_of_some _ q) (Heap.size_push ..) (Nat.le_trans hge (Nat.le_of_lt hlt))
    · by_cases hb2 : b = c'
      · exact .inl (by rw [hb2]; exact hge)
      · exact .inr (by rw [ho b (fun z => by rw [z, hP] at hb; cases hb) hb2]; exact hb)
    · rw [Array.toList_append]; exact TriplesOk_snoc _ _ _ _ ht
    · rw [Array.toList_append]; exact codeAmong_snoc _ ht hnf
  · refine PySem.W.kla_makeFunctionHit (mg := X.mg) hcl I.ok.glob hg ec (hC _ I.kIn) hhP ht hf (blt_keeps LK.blt I.bk) fun ctv h' tk hk hsz => ?_
    have kk : ∀ (o0 : Obj) b o, s.heap.get? b = some o → (h'.push o0).get? b = some o := fun o0 b o e => Heap.get?_push_of_some _ (hk b o e)
    have cr : s.heap.CodeRec (.ref c') (X.env.qual ++ "<lambda>") := (I.hok c' _ hx).1
    exact h _ c' _ ctv H _ (I.kept (t' := tk) (kk _)) (fun b o e _ => e) (fun b hb => .inr hb) ⟨ps, hP, ht, .inr ⟨c', hf, hx⟩⟩ (fun b o _ e => kk _ b o e) (Heap.get?_push_size _ rfl) (codeRec_stay _ _ cr fun o e => kk _ c' o e) (Heap.size_push ..) hsz
end
end L2

namespace L2
open PySem PySem.Spec PyProof.Rows

/-! ### sorted(texts, key = lambda p: x[k][p][n]) -/
/-- jx: the slot of x, the def's own name that the lambda reads -/
def uSortK (P : Addr) (lpos : Pos) (q : Str) (jx : Nat) (k : Str) (n : Nat) (σ : St) (v : V) (H : Hp) (Q : VK) : Prop :=
  ∃ (a hs db : Addr) (xs : List Str) (kvs1 kvs2 : List (Key × V)), v = .ref a ∧ H a = some (.lst (xs.map V.str)) ∧ xs.length < 64 ∧ σ[jx]? = some (some (.ref hs)) ∧ H hs = some (.dK kvs1) ∧ valV kvs1 (Sum.inr k) = some (.ref db) ∧ H db = some (.dK kvs2) ∧
    (∀ y ∈ xs, ∃ tp zs at', valV kvs2 (Sum.inr y) = some (.ref tp) ∧ H tp = some (.tup zs) ∧ zs[n]? = some (.int at')) ∧ LamT P lpos q H ∧
    ∀ (r : Addr) (ys : List Str) (H' : Hp), (∀ y ∈ ys, y ∈ xs) → ys.length = xs.length → SameP P H H' → H r = none → H' r = some (.lst (ys.map V.str)) → LamT P lpos q H' → Q (.ref r) H'
def tSortK (P : Addr) (lpos : Pos) (q : Str) (jx : Nat) (k : Str) (n : Nat) (ta : TA) : TE := fun σ H Q => ta σ H fun vs H1 => ∃ v, vs = [v] ∧ uSortK P lpos q jx k n σ v H1 Q
theorem strs_out {xs : List Str} {vs : List Value} (r : Vals (xs.map V.str) vs) : ∀ out : List Value, (∀ v ∈ out, v ∈ vs) → ∃ ys : List Str, Vals (ys.map V.str) out ∧ ∀ y ∈ ys, y ∈ xs
  | [], _ => ⟨[], .nil, fun y h => by cases h⟩
  | v :: out, h => by
    obtain ⟨ys, r2, hy⟩ := strs_out r out fun u hu => h u (List.mem_cons_of_mem _ hu)
    obtain ⟨i, hi, e⟩ := List.getElem_of_mem (h v List.mem_cons_self)
    have hl := r.length
    rw [List.length_map] at hl
    have hx : (xs.map V.str)[i]? = some (.str (xs[i]'(by omega))) := by rw [List.getElem?_map, List.getElem?_eq_getElem (by omega)]; rfl
    obtain ⟨u, hu, ru⟩ := r.get hx
    rw [List.getElem?_eq_getElem hi, e] at hu
    cases hu
    exact ⟨xs[i]'(by omega) :: ys, .cons ru r2, fun y hy' => by
      rcases List.mem_cons.mp hy' with rfl | hy'
      · exact List.getElem_mem _
      · exact hy y hy'⟩
theorem Inv.frameNew {X : Cx} {pins : List (Addr × Obj)} {σ : St} {H : Hp} {s : Shared} {h' : Heap} {t' : Nat} {m : Str → Option Value} {D : Addr} {ob : HO} (I : Inv X pins σ H s) (hm : s.heap.Ns X.env.locals m) (hn : h'.Ns X.env.locals m) (k : ∀ b o, b ≠ X.env.locals → s.heap.get? b = some o → h'.get? b = some o)
    (hD : s.heap.objs.size ≤ D) (hob : ObjOk X.prog X.w (upd H D ob) h' D ob) : Inv X pins σ (upd H D ob) { s with heap := h', toks := t' } := by
  have hHD : H D = none := I.hok.fresh hD
  have ne : ∀ b o, H b = some o → b ≠ D := fun b o e => ne_of_none e hHD
  have nL : ∀ b o, H b = some o → b ≠ X.env.locals := fun b o e => ne_of_none e I.free
  refine I.step (g' := s.gens) (d' := s.drawn) (ch := []) (fun _ z => nomatch z) (fun b o hL _ _ e _ => k b o hL e) (fun b o hL _ _ e _ => ⟨o.slots, k b o hL e⟩)
    (fun b o _ e n => by rw [upd_ne (Nat.ne_of_lt (Nat.lt_of_lt_of_le (Heap.lt_size e) hD))]; exact n) (fun b o _ e => ?_)
    (fun b xs e => by rw [upd_ne (ne b _ e)]; exact e) (fun b o u e => by rw [upd_ne (ne b _ e)]; exact e) (fun b ps e => ⟨#[], by rw [upd_ne (ne b _ e), e]; simp⟩) (fun m' hm' => ?_) (fun b u e => ?_) I.bare
  · by_cases hb : b = X.env.locals
    · obtain ⟨o', _, _, e', _⟩ := hn
      exact ⟨o', by rw [hb]; exact e'⟩
    · exact ⟨o, k b o hb e⟩
  · rw [hm'.eq_nsMap, ← hm.eq_nsMap]; exact hn
  · by_cases hb : b = D
    · subst hb
      rw [upd_same] at e
      cases e
      exact hob
    · rw [upd_ne hb] at e
      refine (I.hok b u e).stay (fun d v hd q => k d v ?_ q) (fun d q => by rw [upd_ne (ne d _ q)]; exact q) (fun d xs q => by rw [upd_ne (ne d _ q)]; exact q)
      rcases hd with z | z
      · rw [z]; exact nL b u e
      · exact nL d _ z
theorem keys_of {xs : List Str} {R : Str → Int → Prop} : (∀ y ∈ xs, ∃ k, R y k) → ∃ kz : List Int, kz.length = xs.length ∧ ∀ (i : Nat) y k, xs[i]? = some y → kz[i]? = some k → R y k := by
  induction xs with
  | nil => intro _; exact ⟨[], rfl, fun i y k h => by simp at h⟩
  | cons x xs ih =>
    intro h
    obtain ⟨k, hk⟩ := h x List.mem_cons_self
    obtain ⟨kz, hl, hz⟩ := ih fun y hy => h y (List.mem_cons_of_mem _ hy)
    refine ⟨k :: kz, by simp [hl], fun i y k' h1 h2 => ?_⟩
    cases i with
    | zero =>
      have e1 : x = y := by simpa using h1
      have e2 : k = k' := by simpa using h2
      subst e1 e2; exact hk
    | succ i => exact hz i y k' (by simpa using h1) (by simpa using h2)
section
variable {X : Cx}
theorem pe_sortL {P : Addr} {lpos px pk pp pi p1 p2 p3 sp cpos kpos : Pos} {jk ji : _} {x p k : Str} {i : Int} {n jx : Nat} {e : Expr} {ta : TA} {params : Arguments} {scope : Scope} (hr : X.A.depth + 4 < recursionLimit) (hg : Gl X "sorted") (hm : X.mg "sorted" = none) (ha : PA X [e] ta)
    (LK : LamK X.K X.mg X.base X.env.code P) (hc : X.calm = true) (hjx : X.N[jx]? = some x) (hn : i = (n : Int)) (hcellx : X.env.kindOf x = some .cell)
    (hnames : scope.names = [(p, .local), (x, .free)]) (hne : x ≠ p) (hco : scope.isCoroutine = false) (hgen : scope.isGenerator = false) (hk : scope.kind = .function) (hdef : defaultsOf params X.env = ([], []))
    (hbind : ∀ (c c' : Addr) (u pm ctv : Value), bindArgs (PySem.W.kla_fn "<lambda>" (X.env.qual ++ "<lambda>") params (.Subscript (.Subscript (.Subscript (.Name x px) (.Constant (.str k) jk pk) p1) (.Name p pp) p2) (.Constant (.int i) ji pi) p3) scope [(x, c)] pm (.ref c') ctv) ⟨[u], []⟩ = pure [(p, u)])
    (hxd : (x == ("__debug__" : Str)) = false := by decide) (hxc : (x == ("__classdict__" : Str)) = false := by decide) (hpd : (p == ("__debug__" : Str)) = false := by decide)
    (he : backTo cpos (starEach [e] X.env) = (false, eval e X.env) :: backTo cpos (starEach [] X.env) := by rfl) (hpl : (backTo cpos (starEach [e] X.env)).any (·.1) = false := by rfl) :
    PE X (.Call (.Name "sorted" sp) [e] [⟨some "key", .Lambda params (.Subscript (.Subscript (.Subscript (.Name x px) (.Constant (.str k) jk pk) p1) (.Name p pp) p2) (.Constant (.int i) ji pi) p3) scope lpos, kpos⟩] cpos) (tSortK P lpos (X.env.qual ++ "<lambda>") jx k n ta) := by
  intro pins s σ H Q I h
  refine wpAny_Call_Name_kw (ld_blt I hg hm boot_sorted ?_)
  refine callWith_kw (thn (ha cpos pins s σ H _ I h) fun us s1 ⟨vs, H1, I1, r1, v, ev, q1⟩ => ?_) he hpl
  subst ev
  obtain ⟨a, hs, db, xs, kvs1, kvs2, rfl, ea, h64, eσ, e1, v1, e2, hall, LT, q⟩ := q1
  obtain ⟨u, rfl, ru⟩ := vals1 r1
  cases ru
  have hlx : ∀ y, y ∈ scope.names → y = (p, NameKind.local) ∨ y = (x, NameKind.free) := fun y hy => by rw [hnames] at hy; simpa using hy
  refine kws_cons (lam_make I1 LK LT (fun y hy hf => ?_) hdef fun f c' pm ctv H2 s2 I2 sP hfr LT2 kept hf hcd hsf hsf2 => kws_nil ?_)
  · rcases hlx y hy with z | z
    · rw [z] at hf; cases hf
    · rw [z]; exact .inl hcellx
  show wpAny _ _ (call (.builtin "sorted") [.ref a] [("key", .ref f)]) _ _ s2
  have nP : ∀ b o, H1 b = some o → (∀ ps, o ≠ .tbl ps) → H2 b = some o := fun b o e1 e2 => sP b o e1 (fun z => by
    obtain ⟨ps, hP, _⟩ := LT
    rw [z, hP] at e1; cases e1; exact e2 _ rfl)
  have ea2 := nP a _ ea (fun _ z => by cases z)
  have e12 := nP hs _ e1 (fun _ z => by cases z)
  have e22 := nP db _ e2 (fun _ z => by cases z)
  obtain ⟨its, rv, pl, hz⟩ := I2.list (SqL.of (K := X.K) ea2)
  have hli := rv.length
  rw [List.length_map] at hli
  obtain ⟨m, hns, hloc⟩ := id I2.loc
  -- x's cell
  obtain ⟨ux, rx, lk⟩ := hloc jx x (.ref hs) hjx eσ (.inr (.inl hcellx))
  cases rx
  obtain ⟨cx, hcx, hcell⟩ : ∃ c, X.env.cells.lookup x = some c ∧ s2.heap.IsCell c (some (.ref hs)) := by
    rcases lk with ⟨z, _⟩ | ⟨_, c, h1, h2⟩
    · have z2 : some NameKind.cell = some NameKind.local := hcellx.symm.trans z
      cases z2
    · exact ⟨c, h1, h2⟩
  have ecl : clOf X.env scope.names [] = [(x, cx)] := by
    rw [hnames]
    have e1 : (NameKind.local == NameKind.free) = false := by decide
    have e2 : (NameKind.free == NameKind.free) = true := by decide
    simp only [clOf, e1, e2, if_true, Bool.false_eq_true, if_false, hcx, Option.getD_some]
  rw [ecl] at hf
  have F : Fr X.base X.env.locals s2.heap m := ⟨hns, I2.bk, Nat.le_trans I2.ok.bsz I2.ok.above⟩
  obtain ⟨oL, esL, epL, hoL, hdL, _⟩ := id hns
  have nL : ∀ b o, H2 b = some o → b ≠ X.env.locals := fun b o e => ne_of_none e I2.free
  have nf : f ≠ X.env.locals := fun z => by
    rw [z, hoL] at hf
    cases hf
    cases hdL
  have keep : ∀ {h : Heap} {own : List (Addr × Obj)}, Fr X.base X.env.locals h m → News X.base X.env.locals h (allNews X.base s2.heap X.env.locals ++ own) → ∀ b o, b ≠ X.env.locals → s2.heap.get? b = some o → h.get? b = some o := fun {h own} F' N' b o hb e => by
    cases q : X.base.get? b with
    | some u =>
      have := I2.bk b u q
      rw [e] at this; cases this
      exact F'.keep b _ q
    | none => exact (N' (b, o) (List.mem_append_left _ (mem_allNews hb q e))).1
  obtain ⟨z1, hd1, vs1, rel1, dd1⟩ := dk_of I2.hok e12
  obtain ⟨z2, hd2, vs2, rel2, dd2⟩ := dk_of I2.hok e22
  have w1 : valueAt vs1 (Sum.inr k) = some (.ref db) := by
    obtain ⟨w', hw, rw'⟩ := RelO.some_of (v := .ref db) (o := valueAt vs1 (Sum.inr k)) (by rw [← v1]; exact rel1.val _)
    cases rw'; exact hw
  obtain ⟨kz, hkl, hkz⟩ := keys_of (R := fun y k' => ∃ tp zs, valV kvs2 (Sum.inr y) = some (.ref tp) ∧ H1 tp = some (.tup zs) ∧ zs[n]? = some (.int k')) fun y hy => by
    obtain ⟨tp, zs, at', r⟩ := hall y hy
    exact ⟨at', tp, zs, r⟩
  refine PyProof.Rows.ksk_sorted (kz := kz) (b := false) (vs := its) F news_all pl.isList (by omega) (by omega) (PyProof.Rows.ksk_s1 _ _) (fun _ => PyProof.Rows.ksk_l1 _ _) (fun y => PyProof.Rows.ksk_t1 f y) (fun i' v' k' hv' hk' h' tk own F' N' => ?_) fun D h' tk out c F3 N3 hlt KO => ?_
  · have hi' : i' < xs.length := by have := (List.getElem?_eq_some_iff.mp hv').1; omega
    have hy : xs[i']? = some (xs[i']'hi') := List.getElem?_eq_getElem hi'
    obtain ⟨tp, zs, t1, t2, t3⟩ := hkz i' _ _ hy hk'
    have rv' : RelV (.str (xs[i']'hi')) v' := by
      obtain ⟨u, hu, ru⟩ := rv.get (i := i') (x := .str (xs[i']'hi')) (by rw [List.getElem?_map, hy]; rfl)
      rw [hv'] at hu; cases hu; exact ru
    have t22 := nP tp _ t2 (fun _ z => by cases z)
    obtain ⟨tis, trv, tpl, tz⟩ := I2.tuple (SqT.of (K := X.K) t22)
    obtain ⟨w', hw, rw'⟩ := RelO.some_of (v := .ref tp) (o := valueAt vs2 (Sum.inr (xs[i']'hi'))) (by rw [← t1]; exact rel2.val _)
    cases rw'
    obtain ⟨ti, hti, tt, rfl⟩ := trv.get t3
    have kk := keep F' N'
    have dk : ∀ {d : Addr} {vs : List (Key × Value)}, d ≠ X.env.locals → s2.heap.DictOf (mixKind X.prog X.w) d vs → h'.DictOf (mixKind X.prog X.w) d vs := fun {d vs} hd ⟨o, es, ep, e, r⟩ => ⟨o, es, ep, kk _ _ hd e, r⟩
    have cc : cx ≠ X.env.locals := I2.cne x cx hcx
    have cell' : h'.IsCell cx (some (.ref hs)) := by obtain ⟨o, e, d⟩ := hcell; exact ⟨o, kk _ _ cc e, d⟩
    have tup' : IsTup h' tp tis.toArray := by obtain ⟨o, e, r⟩ := tpl; exact ⟨o, kk _ _ (nL _ _ t22) e, r⟩
    have hcd' : h'.CodeRec (.ref c') (X.env.qual ++ "<lambda>") := codeRec_stay _ _ hcd fun o e => kk _ _ (fun z => by
      obtain ⟨c2, o2, vs, t, e2, e3, e4, _⟩ := hcd
      cases e2
      rw [z, hoL] at e3
      cases e3
      rw [hdL] at e4; cases e4) e
    have lim : h'.NoLimit := I2.ok.mod.nolimit.keeps F'.keep
    refine lam_call (s := { s2 with heap := h', toks := tk }) (A := X.A.in1.in1) (kk f _ nf hf) hcd' (by show X.A.depth < _; omega) lim hco hgen hk (fun y hy => ?_) ?_ ?_ (hbind _ _ _ _ _) cell' (dk (nL _ _ e12) dd1) w1 (dk (nL _ _ e22) dd2) (kV_is (k := Sum.inr _) rv') hw tup' hti hn (by rw [← trv.length]; exact tz) hxd hxc hpd fun h'' tk'' k2 => ⟨h'', tk'', tt, rfl, rfl, ⟨F'.ns.keeps k2, fun b o e => k2 _ _ (F'.keep b o e), F'.above⟩, fun q hq => ⟨k2 _ _ (N' q hq).1, (N' q hq).2⟩⟩
    · rcases hlx y hy with z | z <;> rw [z] <;> simp
    · rw [hnames]; simp
    · have e : (x == p) = false := by simpa using hne
      rw [hnames, List.lookup_cons, e]; simp
  · have n3 := N3 (D, _) List.mem_cons_self
    have hbf : X.base.get? f = none := Heap.get?_none_of_le (Nat.le_trans I1.ok.bsz (Nat.le_trans I1.sz hsf2))
    have hDs : s2.heap.objs.size ≤ D := by
      have := hlt (f, _) (mem_allNews nf hbf hf)
      rw [hsf]; exact this
    have hH2D : H2 D = none := I2.hok.fresh hDs
    have N4 : News X.base X.env.locals h' (allNews X.base s2.heap X.env.locals ++ []) := fun q hq => N3 q (List.mem_cons_of_mem _ (by simpa using hq))
    obtain ⟨pz, perm, eo, _⟩ := KO
    obtain ⟨ys, ry, hys⟩ := strs_out rv out.toList fun v hv => by
      rw [eo] at hv
      obtain ⟨⟨a1, a2⟩, h1, rfl⟩ := List.mem_map.mp hv
      exact (List.of_mem_zip (perm.mem_iff.mp h1)).2
    have hlo : ys.length = xs.length := by
      have e1 := ry.length
      have e2 := congrArg List.length eo
      have e3 := perm.length_eq
      rw [List.length_map] at e1 e2
      rw [List.length_zip] at e3
      omega
    have hob : ObjOk X.prog X.w (upd H2 D (.lst (ys.map V.str))) h' D (.lst (ys.map V.str)) := ⟨by rw [List.length_map, sizeLine_eq]; omega, out.toList, c, ry, n3.1⟩
    have I4 := I2.frameNew (t' := tk) hns F3.ns (keep F3 N4) hDs hob
    have sH : ∀ b o, H2 b = some o → (upd H2 D (.lst (ys.map V.str))) b = some o := fun b o e => by rw [upd_ne (ne_of_none e hH2D)]; exact e
    refine ⟨.ref D, _, I4, rfl, q D ys _ hys hlo (fun b o e hb => sH b o (sP b o e hb)) ?_ upd_same ?_⟩
    · cases e : H1 D with
      | none => rfl
      | some o =>
        by_cases hb : D = P
        · obtain ⟨ps, hP, _⟩ := LT2
          rw [← hb, hH2D] at hP; cases hP
        · rw [sP D o e hb] at hH2D; cases hH2D
    · obtain ⟨ps, hP, ht, hcc⟩ := LT2
      refine ⟨ps, sH _ _ hP, ht, hcc.imp id ?_⟩
      rintro ⟨c2, h1, h2⟩
      exact ⟨c2, h1, sH _ _ h2⟩
end
end L2

namespace L2
open PySem PySem.Spec PyProof.Rows
section
variable {X : Cx}
/-! ### tuples put together and cut -/
def uCatT : V → V → Hp → VK → Prop
  | .ref a, .ref b, H, Q => ∃ xs ys, H a = some (.tup xs) ∧ H b = some (.tup ys) ∧ xs ≠ [] ∧ ys ≠ [] ∧ xs.length + ys.length ≤ sizeLine ∧ ∀ p, H p = none → Q (.ref p) (upd H p (.tup (xs ++ ys)))
  | _, _, _, _ => False
theorem u_catT : OpR X (binaryOp .Add) uCatT := op_catT.imp fun x y H Q h => by
  unfold uCatT at h
  split at h
  · obtain ⟨xs, ys, h1, h2, h3, h4, h5, q⟩ := h
    exact ⟨_, _, xs, ys, rfl, rfl, SqT.of h1, SqT.of h2, h3, h5, fun z => absurd z h4, fun _ => q⟩
  · exact h.elim
def uCutT : V → Option Int → Option Int → Hp → VK → Prop
  | .ref a, lo, hi, H, Q => ∃ xs, H a = some (.tup xs) ∧ ¬ (HT.sIx xs.length 0 lo = 0 ∧ HT.sIx xs.length xs.length hi = xs.length) ∧ ∀ p, H p = none → Q (.ref p) (upd H p (.tup (cutV xs lo hi)))
  | _, _, _, _, _ => False
theorem u_cutT : SlR X uCutT := sl_tup.imp fun x lo hi H Q h => by
  unfold uCutT at h
  split at h
  · obtain ⟨xs, h1, h2, q⟩ := h
    exact ⟨_, xs, rfl, SqT.of h1, h2, q⟩
  · exact h.elim
/-! ### insert, index -/
def insV (xs : List V) (k : Int) (y : V) : List V := xs.take (if k < 0 then (k + (xs.length : Int)).toNat else min k.toNat xs.length) ++ y :: xs.drop (if k < 0 then (k + (xs.length : Int)).toNat else min k.toNat xs.length)
def uIns : V → List V → Hp → VK → Prop
  | .ref l, [.int k, y], H, Q => ∃ xs, H l = some (.lst xs) ∧ xs.length < sizeLine ∧ 0 ≤ k ∧ k ≤ 1000000 ∧ Q .non (upd H l (.lst (insV xs k y)))
  | _, _, _, _ => False
theorem u_ins : MtM X "list.insert" uIns := by
  intro pins s σ H x vs v us Q I rx rv h
  unfold uIns at h
  split at h
  · rename_i l k y
    obtain ⟨xs, hH, hz, k0, k1, q⟩ := h
    cases rx
    obtain ⟨u, w', rfl, ⟨t, rfl⟩, ry⟩ := vals2 rv
    obtain ⟨z, its, n, r, hl, e⟩ := I.lstM hH
    have hfi : Builtin.List.listFitsIndex k = true := by
      unfold Builtin.List.listFitsIndex
      simp
      omega
    refine call_meets PySem.F.slot_list_insert ⟨_, e, rfl⟩ PySem.F.entry_list_insert (PySem.F.args_list_insert_3 _ _ _) (PySem.AutoSeq1.list_insert_list_int_val_1 l its.toArray n k t w' (by simp [hfi]) (by rw [List.size_toArray, ← hl]; exact z)) ⟨e, ?_⟩
    have hin : Vals (insV xs k y) (its.take (if k < 0 then (k + (its.length : Int)).toNat else min k.toNat its.length) ++ w' :: its.drop (if k < 0 then (k + (its.length : Int)).toNat else min k.toNat its.length)) := by
      unfold insV
      rw [hl]
      exact (r.take _).append (.cons ry (r.drop _))
    refine ⟨.non, _, I.lset (its' := its.take (if k < 0 then (k + (its.length : Int)).toNat else min k.toNat its.length) ++ w' :: its.drop (if k < 0 then (k + (its.length : Int)).toNat else min k.toNat its.length)) hH e ?_ hin ?_, rfl, q⟩
    · show (its.toArray.extract 0 (if k < 0 then (k + (its.toArray.size : Int)).toNat else min k.toNat its.toArray.size)).push w' ++ its.toArray.extract (if k < 0 then (k + (its.toArray.size : Int)).toNat else min k.toNat its.toArray.size) = _
      rw [PySem.W.kl_ins_eq, List.size_toArray]
    · unfold insV
      rw [List.length_append, List.length_cons, List.length_take, List.length_drop]
      omega
  · exact h.elim
def uIndex : V → List V → Hp → VK → Prop
  | .ref l, [.str x], H, Q => ∃ (xs : List Str) (j : Nat), H l = some (.lst (xs.map V.str)) ∧ xs[j]? = some x ∧ (∀ i, i < j → xs[i]? ≠ some x) ∧ j < 1000 ∧ Q (.int j) H
  | _, _, _, _ => False
theorem u_index : MtM X "list.index" uIndex := by
  intro pins s σ H x vs v us Q I rx rv h
  unfold uIndex at h
  split at h
  · rename_i l x
    obtain ⟨xs, j, hH, hj, hno, hj2, q⟩ := h
    cases rx
    obtain ⟨u, rfl, t, rfl⟩ := vals1 rv
    obtain ⟨z, its, n, r, hl, e⟩ := I.lstM hH
    rw [List.length_map] at hl
    have hjl : j < xs.length := (List.getElem?_eq_some_iff.mp hj).1
    have at' : ∀ (i : Nat) (hi : i < its.length), ∃ t, its[i] = Value.str (xs[i]'(by omega)) t := fun i hi => by
      obtain ⟨u, hu, ru⟩ := r.get (i := i) (x := .str (xs[i]'(by omega))) (by rw [List.getElem?_map, List.getElem?_eq_getElem (by omega)]; rfl)
      rw [List.getElem?_eq_getElem hi] at hu
      cases hu
      exact ru
    have ce : ∀ a b : Str, (a.cps.toList == b.cps.toList) = true ↔ a = b := fun a b => by
      rw [beq_iff_eq]
      exact ⟨fun h => by cases a; cases b; simp at h; rw [h], fun h => by rw [h]⟩
    have hsz : its.toArray.size = xs.length := by rw [List.size_toArray, hl]
    refine call_meets PySem.F.slot_list_index ⟨_, e, rfl⟩ PySem.F.entry_list_index (PySem.F.args_list_index_2 _ _) (MeetsSeq.list_index l its.toArray n (.str x t) (fun v => match v with | .str y _ => y.cps.toList == x.cps.toList | _ => false) (fun y hy => ?_) j (by omega) (by omega) ?_ ?_) ⟨e, ⟨.int j, H, I.tok _, ⟨_, rfl⟩, q⟩⟩
    · obtain ⟨i, hi, rfl⟩ := List.getElem_of_mem (by simpa using hy)
      obtain ⟨t', e'⟩ := at' i hi
      rw [e']
      exact SeqRoads2.EqGives.str _ _ _ _
    · obtain ⟨t', e'⟩ := at' j (by omega)
      have hjj : xs[j]'hjl = x := (List.getElem?_eq_some_iff.mp hj).2
      show (match its[j] with | .str y _ => y.cps.toList == x.cps.toList | _ => false) = true
      rw [e', hjj]
      exact (ce x x).mpr rfl
    · intro i hi hij
      have hi' : i < its.length := by simpa using hi
      obtain ⟨t', e'⟩ := at' i hi'
      show (match its[i] with | .str y _ => y.cps.toList == x.cps.toList | _ => false) = false
      rw [e']
      cases hb : ((xs[i]'(by omega)).cps.toList == x.cps.toList) with
      | false => exact hb
      | true => exact absurd (by rw [List.getElem?_eq_getElem (by omega), (ce _ _).mp hb]) (hno i hij)
  · exact h.elim
end
/-! ### reversed(list), its length n -/
def Itv (K : PySem.W.Frag) (a : Addr) (n : Nat) : It :=
  ⟨fun i H => i < n ∧ ∃ xs x, SqL K H a xs ∧ xs.length = n ∧ xs[n - 1 - i]? = some x, fun i H x H' => H' = H ∧ ∀ xs, SqL K H a xs → xs[n - 1 - i]? = some x, fun i H => i = n⟩
theorem turn_rev {P : Program} {w : World} {K : PySem.W.Frag} {tg : Expr} (a it : Addr) (n : Nat) : Turn P w K tg (Itv K a n) [it] it (fun i h => h.IsRevIter it a ((n : Int) - 1 - i)) where
  mem := by simp
  obj := fun i h st b hb => by
    obtain rfl : b = it := by simpa using hb
    obtain ⟨o, e, c, d⟩ := st
    exact ⟨o, e, fun v z => by rw [d] at z; cases z⟩
  keep := fun i h h' st k => st.at fun o e => k it (by simp) o e
  item := by
    intro X hP hw hK hc i pins s σ H E I hf st hg
    subst hP hw hK
    obtain ⟨hin, xs, x, hq, hxl, hx⟩ := hg
    obtain ⟨its, rv, p, hz⟩ := I.list hq
    obtain ⟨u, hu, ru⟩ := rv.get hx
    obtain ⟨f0, f1, f2, f3, f4, f5⟩ := hf it (by simp)
    have st2 : s.heap.IsRevIter it a ((n - 1 - i : Nat) : Int) := by rw [show ((n - 1 - i : Nat) : Int) = (n : Int) - 1 - i by omega]; exact st
    refine wpAny_pyNext_rev_item st2 p.isList (x := u) (by simpa using hu) fun h' st' sb => ?_
    have I1 : Inv X pins σ H { s with heap := h' } := I.turned (t' := s.toks) (fun b o hb e => (sb.2 b hb).trans e) f0 f1 f3 f4 f5
    obtain ⟨o, e, c, d⟩ := id st'
    refine ⟨u, rfl, go_of (s := { s with heap := h' }) e c d (by decide) ⟨x, H, I1, ru, ⟨rfl, fun ys hy => by rw [I.list_inj hy hq]; exact hx⟩, ?_, fun b hb => (hf b hb).1⟩⟩
    rw [show ((n - 1 - i : Nat) : Int) - 1 = (n : Int) - 1 - ((i + 1 : Nat) : Int) by omega] at st'
    exact st'
  done := by
    intro X hP hw hK hc i pins s σ H E I hf st hg
    subst hP hw hK
    obtain ⟨f0, f1, f2, f3, f4, f5⟩ := hf it (by simp)
    have hi : i = n := hg
    subst hi
    rw [show (i : Int) - 1 - i = -1 by omega] at st
    exact wpAny_pyNext_rev_end (I.ok.hd hc) st fun h' eb => ⟨rfl, I.turned (t' := s.toks) (fun b o hb e => eb b o hb e) f0 f1 f3 f4 f5⟩
  self := fun _ _ _ _ _ st h => wpAny_pyIter_revIter st h
section
variable {X : Cx} {tg : Expr}
def iRev (K : PySem.W.Frag) (ta : TA) : TI := fun σ H R => ta σ H fun vs H1 => ∃ a xs, vs = [.ref a] ∧ H1 a = some (.lst xs) ∧ R (Itv K a xs.length) H1
theorem pi_rev {a : Expr} {ta : TA} {p pos : Pos} (hg : Gl X "reversed") (hm : X.mg "reversed" = none) (ha : PA X [a] ta) (hs : starEach [a] X.env = [(false, eval a X.env)] := by rfl) : PI X tg (.Call (.Name "reversed" p) [a] [] pos) (iRev X.K ta) := by
  intro pins s σ H R I h
  refine Call_ (ld_blt I hg hm boot_reversed (PyProof.Rows.callWith_type1 (thn (ha pos pins s σ H _ I h) fun us s1 ⟨vs, H1, I1, r1, q1⟩ => ?_) hs rfl))
  obtain ⟨l, xs, rfl, hq, q⟩ := q1
  obtain ⟨u, rfl, ru⟩ := vals1 r1
  cases ru
  obtain ⟨its, rv, pl, hz⟩ := I1.list (SqL.of (K := X.K) hq)
  have hl := rv.length
  refine call_reversed_list pl.isList ?_
  have st : (s1.heap.push (revObj l ((its.toArray.size : Int) - 1))).IsRevIter s1.heap.objs.size l ((xs.length : Int) - 1 - ((0 : Nat) : Int)) := ⟨_, Heap.get?_push_size _ rfl, rfl, by rw [List.size_toArray, ← hl]; simp [revObj]⟩
  refine wpAny_pyIter_revIter (s := { s1 with heap := s1.heap.push (revObj l ((its.toArray.size : Int) - 1)) }) st ⟨s1.heap.objs.size, [s1.heap.objs.size], _, _, H1, rfl, I1.kept (t' := s1.toks) fun b o e => Heap.get?_push_of_some _ e, turn_rev l _ xs.length, st, fun b hb => ?_, q⟩
  obtain rfl : b = s1.heap.objs.size := by simpa using hb
  exact I1.fpOk (Nat.le_refl _) (I1.hok.fresh (Nat.le_refl _))
end
section
variable {σ : St} {H : Hp} {g : TG} {tA : TA} {R : It → Hp → Prop} {K : PySem.W.Frag}
theorem rIRev : iRev K tA σ H R = tA σ H fun vs H1 => ∃ a xs, vs = [.ref a] ∧ H1 a = some (.lst xs) ∧ R (Itv K a xs.length) H1 := rfl
theorem comp_rev {a : Addr} {xs : List V} {Q : VK} {k : Nat} {caps : List Nat} {tt : TT} {te : TE} (Pv : Nat → List V → Hp → Prop) (h0 : Pv 0 [] H) (hl : ∀ i ys H, i ≤ xs.length → Pv i ys H → H a = some (.lst xs) ∧ ys.length ≤ i) (hz : xs.length ≤ 100000)
    (hs : ∀ i x ys H (N : List V → Hp → Prop), xs.reverse[i]? = some x → Pv i ys H → (∀ ys' H', Pv (i + 1) ys' H' → N ys' H') → g x (capS k caps σ) H fun σ2 H2 => tt σ2 H2 fun b H3 => if b = true then te σ2 H3 fun v H4 => N (ys ++ [v]) H4 else N ys H3)
    (hd : ∀ ys H p, Pv xs.length ys H → H p = none → Q (.ref p) (upd H p (.lst ys))) :
    tCompK k caps g tt te σ Q (Itv K a xs.length) H := by
  refine ⟨fun i m ys H => m = xs.length - i ∧ i ≤ xs.length ∧ Pv i ys H, ⟨_, rfl, Nat.zero_le _, h0⟩, ?_⟩
  rintro i m ys H ⟨rfl, hi, p⟩
  obtain ⟨q, ql⟩ := hl i ys H hi p
  by_cases hlt : i < xs.length
  · have ex : xs[xs.length - 1 - i]? = some (xs[xs.length - 1 - i]'(by omega)) := List.getElem?_eq_getElem _
    refine .inr ⟨⟨hlt, xs, _, SqL.of q, rfl, ex⟩, small1 (by omega), fun x H' y => ?_⟩
    obtain ⟨e, y⟩ := y
    subst e
    have hy := y xs (SqL.of q)
    exact hs i x ys _ (fun ys' H' => ∃ m', m' < xs.length - i ∧ (m' = xs.length - (i + 1) ∧ i + 1 ≤ xs.length ∧ Pv (i + 1) ys' H')) (by rw [List.getElem?_reverse hlt]; exact hy) p fun ys' H' z => ⟨_, by omega, rfl, hlt, z⟩
  · have e : i = xs.length := by omega
    subst e
    exact .inl ⟨rfl, fun pp hp => hd ys H pp p hp⟩
end
/-! ### dicts with texts for keys -/
section
variable {X : Cx}
def uDg : V → V → Hp → VK → Prop
  | .ref a, .str k, H, Q => ∃ kvs v, H a = some (.dK kvs) ∧ valV kvs (Sum.inr k) = some v ∧ Q v H
  | _, _, _, _ => False
theorem uDg_inv {x y : V} {H : Hp} {Q : VK} (h : uDg x y H Q) : ∃ a k kvs v, x = .ref a ∧ y = .str k ∧ H a = some (.dK kvs) ∧ valV kvs (Sum.inr k) = some v ∧ Q v H := by
  unfold uDg at h
  split at h
  · obtain ⟨kvs, v, h1, h2, q⟩ := h
    exact ⟨_, _, kvs, v, rfl, rfl, h1, h2, q⟩
  · exact h.elim
theorem pe_dgU {o i : Expr} {pos : Pos} {td ty : TE} (hu : X.A.units + 1 < cLine) (ho : PE X o td) (hi : PE X i ty) (hs : NoSl i) : PE X (.Subscript o i pos) (tOp uDg td ty) := by
  intro pins s σ H Q I h
  refine subD_of PySem.F.slot_dict_getitem.lookup hs (thn (ho pins s σ H _ I h) fun u s1 ⟨x, H1, I1, rx, q1⟩ => thn (hi pins s1 σ H1 _ I1 q1) fun iv s2 ⟨y, H2, I2, ry, q2⟩ => ?_)
  obtain ⟨a, k, kvs, v, rfl, rfl, h1, h2, q⟩ := uDg_inv q2
  cases rx
  have g : DGet H2 a (V.str k) (some v) := by rw [← h2]; exact .inl ⟨kvs, Sum.inr k, .inl h1, rfl, rfl⟩
  exact ⟨dict_typeIs I2 g, d_getItem hu I2 g ry fun w' s3 I3 rw' => ⟨v, H2, I3, rw', q⟩⟩
/-- the module's own dict at aC, in its fixed part -/
def KDict (K : PySem.W.Frag) (P : Program) (w : World) (aC : Addr) (kvs : List (Key × V)) : Prop := ∀ h : Heap, K.In h → ∃ vs, KV kvs vs ∧ h.DictOf (mixKind P w) aC vs
def uDgK (aC : Addr) (kvs : List (Key × V)) : V → V → Hp → VK → Prop
  | .ref a, .str k, H, Q => a = aC ∧ ∃ v, valV kvs (Sum.inr k) = some v ∧ Q v H
  | _, _, _, _ => False
theorem uDgK_inv {aC : Addr} {kvs : List (Key × V)} {x y : V} {H : Hp} {Q : VK} (h : uDgK aC kvs x y H Q) : ∃ k v, x = .ref aC ∧ y = .str k ∧ valV kvs (Sum.inr k) = some v ∧ Q v H := by
  unfold uDgK at h
  split at h
  · obtain ⟨e, v, h2, q⟩ := h
    exact ⟨_, v, by rw [e], rfl, h2, q⟩
  · exact h.elim
theorem pe_dgK {aC : Addr} {kvs : List (Key × V)} {o i : Expr} {pos : Pos} {td ty : TE} (D : KDict X.K X.prog X.w aC kvs) (ho : PE X o td) (hi : PE X i ty) (hs : NoSl i) : PE X (.Subscript o i pos) (tOp (uDgK aC kvs) td ty) := by
  intro pins s σ H Q I h
  refine subD_of PySem.F.slot_dict_getitem.lookup hs (thn (ho pins s σ H _ I h) fun u s1 ⟨x, H1, I1, rx, q1⟩ => thn (hi pins s1 σ H1 _ I1 q1) fun iv s2 ⟨y, H2, I2, ry, q2⟩ => ?_)
  obtain ⟨k, v, rfl, rfl, h2, q⟩ := uDgK_inv q2
  cases rx
  obtain ⟨vs, rel, dd⟩ := D _ I2.kIn
  obtain ⟨w', hw, rw'⟩ := RelO.some_of (v := v) (o := valueAt vs (Sum.inr k)) (by rw [← h2]; exact rel.val _)
  obtain ⟨o, es, ep, e, c, _⟩ := id dd
  exact ⟨⟨o, e, c.1⟩, wpAny_getItem_of (kV_is (k := Sum.inr k) ry) dd.mapOf hw ⟨v, H2, I2.tok _, rw', q⟩⟩
def uSetD : V → V → V → Hp → (Hp → Prop) → Prop
  | .ref a, .str k, v, H, Q => ∃ kvs, H a = some (.dK kvs) ∧ kvs.length < sizeLine ∧ Q (upd H a (.dK (putK kvs (Sum.inr k) v)))
  | _, _, _, _, _ => False
theorem u_setD (hu : X.A.units + 1 < cLine) : PSet X uSetD := fun pins s σ H o i v ov iv vv Q I r1 r2 r3 h => by
  unfold uSetD at h
  split at h
  · obtain ⟨kvs, h1, h2, q⟩ := h
    cases r1
    exact d_setItem hu I (DPut.k (k := Sum.inr _) h1 h2) r2 r3 fun s' I' => ⟨_, I', q⟩
  · exact h.elim
end
section
variable {H : Hp} {Q : VK} {a b : Addr} {k : Str}
theorem uDg_0 : uDg (.ref a) (.str k) H Q = ∃ kvs v, H a = some (.dK kvs) ∧ valV kvs (Sum.inr k) = some v ∧ Q v H := rfl
theorem uDgK_0 {aC : Addr} {kvs : List (Key × V)} : uDgK aC kvs (.ref a) (.str k) H Q = (a = aC ∧ ∃ v, valV kvs (Sum.inr k) = some v ∧ Q v H) := rfl
theorem uSetD_0 {v : V} {R : Hp → Prop} : uSetD (.ref a) (.str k) v H R = ∃ kvs, H a = some (.dK kvs) ∧ kvs.length < sizeLine ∧ R (upd H a (.dK (putK kvs (Sum.inr k) v))) := rfl
theorem uCatT_0 : uCatT (.ref a) (.ref b) H Q = ∃ xs ys, H a = some (.tup xs) ∧ H b = some (.tup ys) ∧ xs ≠ [] ∧ ys ≠ [] ∧ xs.length + ys.length ≤ sizeLine ∧ ∀ p, H p = none → Q (.ref p) (upd H p (.tup (xs ++ ys))) := rfl
theorem uCutT_0 {lo hi : Option Int} : uCutT (.ref a) lo hi H Q = ∃ xs, H a = some (.tup xs) ∧ ¬ (HT.sIx xs.length 0 lo = 0 ∧ HT.sIx xs.length xs.length hi = xs.length) ∧ ∀ p, H p = none → Q (.ref p) (upd H p (.tup (cutV xs lo hi))) := rfl
theorem uIns_0 {i : Int} {y : V} : uIns (.ref a) [.int i, y] H Q = ∃ xs, H a = some (.lst xs) ∧ xs.length < sizeLine ∧ 0 ≤ i ∧ i ≤ 1000000 ∧ Q .non (upd H a (.lst (insV xs i y))) := rfl
theorem uIndex_0 : uIndex (.ref a) [.str k] H Q = ∃ (xs : List Str) (j : Nat), H a = some (.lst (xs.map V.str)) ∧ xs[j]? = some k ∧ (∀ i, i < j → xs[i]? ≠ some k) ∧ j < 1000 ∧ Q (.int j) H := rfl
theorem rDisp {trs : List (TE × TE)} {σ : St} : tDisp trs σ H Q = ∀ p, H p = none → tPairs trs σ (upd H p (.dK [])) fun ps H2 => H2 p = some (.dK []) ∧ ∃ kvs : List (Key × V), ps = kvs.map (fun kv => (kV kv.1, kv.2)) ∧ kvs.length ≤ 15 ∧ Q (.ref p) (upd H2 p (.dK (mergeK [] kvs))) := rfl
theorem rPairs0 {σ : St} {R : List (V × V) → Hp → Prop} : tPairs [] σ H R = R [] H := rfl
theorem rPairs1 {tk tv : TE} {r : List (TE × TE)} {σ : St} {R : List (V × V) → Hp → Prop} : tPairs ((tk, tv) :: r) σ H R = tk σ H fun x H1 => tv σ H1 fun y H2 => tPairs r σ H2 fun ps H3 => R ((x, y) :: ps) H3 := rfl
theorem rDNewK {σ : St} : tDNewK σ H Q = ∀ p, H p = none → Q (.ref p) (upd H p (.dK [])) := rfl
theorem rSortK {P : Addr} {lpos : Pos} {q : Str} {jx : Nat} {n : Nat} {ta : TA} {σ : St} : tSortK P lpos q jx k n ta σ H Q = ta σ H fun vs H1 => ∃ v, vs = [v] ∧ uSortK P lpos q jx k n σ v H1 Q := rfl
theorem rdH1 : type_of% @uDg_0 ∧ type_of% @uDgK_0 ∧ type_of% @uSetD_0 ∧ type_of% @uCatT_0 ∧ type_of% @uCutT_0 ∧ type_of% @uIns_0 ∧ type_of% @uIndex_0 ∧ type_of% @rDisp ∧ type_of% @rPairs0 ∧ type_of% @rPairs1 ∧ type_of% @rDNewK ∧ type_of% @rSortK ∧ type_of% @rIRev := ⟨@uDg_0, @uDgK_0, @uSetD_0, @uCatT_0, @uCutT_0, @uIns_0, @uIndex_0, @rDisp, @rPairs0, @rPairs1, @rDNewK, @rSortK, @rIRev⟩
end
end L2

namespace L2
open PySem PySem.Spec PyProof.Rows
/-! ### repr of tuples and lists of texts and ints -/
mutual
inductive Rep (H : Hp) : V → PyData → Prop
  | int (i : Int) : Rep H (.int i) (.int i)
  | str (x : Str) : Rep H (.str x) (.str x)
  | tup {a : Addr} {xs : List V} {ds : List PyData} : H a = some (.tup xs) → RepL H xs ds → Rep H (.ref a) (.tuple ds)
  | lst {a : Addr} {xs : List V} {ds : List PyData} : H a = some (.lst xs) → RepL H xs ds → Rep H (.ref a) (.list ds)
inductive RepL (H : Hp) : List V → List PyData → Prop
  | nil : RepL H [] []
  | cons {x : V} {xs : List V} {d : PyData} {ds : List PyData} : Rep H x d → RepL H xs ds → RepL H (x :: xs) (d :: ds)
end
mutual
theorem Rep.noDict {H : Hp} : ∀ {v : V} {d : PyData}, Rep H v d → d.hasDict = false
  | _, _, .int _ => by simp [PyData.hasDict]
  | _, _, .str _ => by simp [PyData.hasDict]
  | _, _, .tup _ r => by simp [PyData.hasDict, RepL.noDict r]
  | _, _, .lst _ r => by simp [PyData.hasDict, RepL.noDict r]
theorem RepL.noDict {H : Hp} : ∀ {vs : List V} {ds : List PyData}, RepL H vs ds → PyData.hasDictAll ds = false
  | _, _, .nil => by simp [PyData.hasDictAll]
  | _, _, .cons r rs => by simp [PyData.hasDictAll, Rep.noDict r, RepL.noDict rs]
end
section
variable {X : Cx} {pins : List (Addr × Obj)} {σ : St} {H : Hp} {s : Shared}
mutual
theorem Rep.reads (I : Inv X pins σ H s) : ∀ {v : V} {d : PyData} {u : Value}, Rep H v d → RelV v u → ∃ as, Reads s.heap u d as
  | _, _, _, .int i, r => by obtain ⟨t, rfl⟩ := r; exact ⟨_, .int i t⟩
  | _, _, _, .str x, r => by obtain ⟨t, rfl⟩ := r; exact ⟨_, .str x t⟩
  | _, _, _, .tup h rs, r => by
    cases r
    obtain ⟨its, rv, p, _⟩ := I.tuple (SqT.of (K := X.K) h)
    obtain ⟨o, e, c, n, d⟩ := p
    obtain ⟨as, q⟩ := RepL.reads I rs rv
    exact ⟨as, .tuple e c d (by simpa using q)⟩
  | _, _, _, .lst h rs, r => by
    cases r
    obtain ⟨its, rv, p, _⟩ := I.list (SqL.of (K := X.K) h)
    obtain ⟨o, e, c, n, d⟩ := p.isList
    obtain ⟨as, q⟩ := RepL.reads I rs rv
    exact ⟨_, .list e c d (by simpa using q)⟩
theorem RepL.reads (I : Inv X pins σ H s) : ∀ {vs : List V} {ds : List PyData} {us : List Value}, RepL H vs ds → Vals vs us → ∃ as, ReadsAll s.heap us ds as
  | _, _, _, .nil, r => by cases r; exact ⟨_, .nil⟩
  | _, _, _, .cons h hs, r => by
    cases r with
    | cons r1 r2 =>
      obtain ⟨as, q1⟩ := Rep.reads I h r1
      obtain ⟨bs, q2⟩ := RepL.reads I hs r2
      exact ⟨_, .cons q1 q2⟩
end
end
section
variable {X : Cx}
def uRepr : List V → Hp → VK → Prop
  | [.ref a], H, Q => ∃ d, Rep H (.ref a) d ∧ d.showable = true ∧ d.depth ≤ 20 ∧ d.shown.length ≤ sizeLine ∧ Q (.str d.shown) H
  | _, _, _ => False
theorem u_repr (hg : X.A.guards = some []) (hu : X.A.units + 64 < cLine) : CallR X (.builtin "repr") uRepr := by
  intro pins s σ H xs us Q I r h
  unfold uRepr at h
  split at h
  · rename_i a
    obtain ⟨d, h1, h2, h3, h4, q⟩ := h
    obtain ⟨u, rfl, ru⟩ := vals1 r
    cases ru
    obtain ⟨as, rd⟩ := h1.reads I rfl
    exact repr_of_reads' rd h2 (fun z => by rw [h1.noDict] at z; cases z) hg (by omega) (fun b o e => e) (fun h' u tk k => ⟨.str d.shown, H, I.kept k, ⟨_, rfl⟩, q⟩) h4
  · exact h.elim
theorem uRepr_0 {a : Addr} {H : Hp} {Q : VK} : uRepr [.ref a] H Q = ∃ d, Rep H (.ref a) d ∧ d.showable = true ∧ d.depth ≤ 20 ∧ d.shown.length ≤ sizeLine ∧ Q (.str d.shown) H := rfl
end
end L2

namespace L2
open PySem PySem.Spec PyProof.Rows
/-- nothing is tracked but the script and the table at PT -/
def OnlyT (PT : Addr) (H : Hp) : Prop := H PT = some (.tbl #[]) ∧ ∀ b, H b = none ∨ (∃ o xs, H b = some (.frz o (.lst xs))) ∨ b = PT
theorem law_callT {PT : Addr} {P : Program} {w : World} {K : PySem.W.Frag} {mg mb : Str → Option Value} {CX : CXT} {k : Nat} {fa a : Addr} {fd : FuncData} {x : Str} {sp : Sp} {s₁ : Shared} {vs : List Value} {ns : List Int}
    (KX : K.In s₁.heap) (hns : s₁.heap.Ns mainGlobals mg) (hb : s₁.heap.Ns builtinsNs mb) (hbb : ∀ x : Str, x ≠ "__name__" → mb x = bootBuiltins x) (hlim : s₁.heap.NoLimit) (hg : s₁.gens = #[])
    (ha : s₁.heap.get? a = some { cls := .type "list", data := .seq vs.toArray }) (hi : IntsAre vs ns) (hl : ns.length ≤ sizeLine) (hr : Room k callerA) (hPT : s₁.heap.get? PT = some (PySem.W.tabObj #[])) (hPK : K.lookup PT = none) (hct : isCodeTable s₁.heap PT)
    (hbm : ∃ bm ob, mg "__builtins__" = some (.ref bm) ∧ bm ≠ builtinsNs ∧ s₁.heap.get? bm = some ob ∧ ob.cls = .type "module" ∧ ob.dict = some builtinsNs ∧ ob.data = .plain)
    (F : ∀ base : Heap, K.In base → base.Ns mainGlobals mg → base.BuiltinsAt mg PT → FnOk P w K mg base CX k fa fd [x] sp) (hbind : ∀ (s : Shared) (u : Value), BindsTo s fd ⟨[u], []⟩ [(x, u)])
    (hsp : ∀ H : Hp, H PT = some (.tbl #[]) → SqL K H a (ns.map V.int) → sp [.ref a] H (fun v _ => v = .bl true) fun _ _ _ => False)
    (hCX : ∀ H e s', CX [] H s₁ (fun _ _ _ => False) e s' → False) :
    codeAny (model P w) callerA (.call (.ref fa) ⟨[.ref a], []⟩) (fun r s' => r = .ok (.ret (.bool true)) ∧ OldK s₁.heap s'.heap ∧ s'.os = s₁.os ∧ AllBare s'.gens) s₁ := by
  have rv := vals_ints hi
  have lenV := hi.length
  -- from an abstract heap in which nothing but the script may be tracked
  have core : ∀ H : Hp, OnlyT PT H → SqL K H a (ns.map V.int) → HOk P w H s₁.heap → (∀ b, H b ≠ none → b = a ∨ b = PT) → (H a ≠ none → K.lookup a = none) →
      codeAny (model P w) callerA (.call (.ref fa) ⟨[.ref a], []⟩) (fun r s' => r = .ok (.ret (.bool true)) ∧ OldK s₁.heap s'.heap ∧ s'.os = s₁.os ∧ AllBare s'.gens) s₁ := by
    intro H hO hS hok hA hK
    have base_of : ∀ {b : Addr} {o : Obj}, s₁.heap.get? b = some o → H b = none → (hidT s₁.heap H).get? b = some o := fun e n => hidT_get e n
    have noA : ∀ {b : Addr} {o : Obj} {es : Array DictEntry} {ep : Nat}, s₁.heap.get? b = some o → o.data = .dict es ep → H b = none := fun {b o es ep} e d => by
      cases q : H b with
      | none => rfl
      | some u =>
        rcases hA b (by rw [q]; simp) with e' | e'
        · subst e'
          rw [ha] at e; cases e
          have d' : Data.seq vs.toArray _ = Data.dict es ep := d
          cases d'
        · subst e'
          rw [hPT] at e; cases e
          have d' : Data.fields _ = Data.dict es ep := d
          cases d'
    have nsK : ∀ {b : Addr} {m : Str → Option Value}, s₁.heap.Ns b m → (hidT s₁.heap H).Ns b m := fun {b m} ⟨o, es, ep, e, d, r⟩ => ⟨o, es, ep, base_of e (noA e d), d, r⟩
    have hKb : K.In (hidT s₁.heap H) := fun b o e => base_of (KX b o e) (by
      cases q : H b with
      | none => rfl
      | some u =>
        rcases hA b (by rw [q]; simp) with e' | e'
        · subst e'
          rw [hK (by rw [q]; simp)] at e; cases e
        · subst e'
          rw [hPK] at e; cases e)
    have hM : Mod K mg (hidT s₁.heap H) := ⟨hKb, nsK hns, ⟨mb, nsK hb, hbb⟩, let ⟨mc, h1, h2⟩ := hlim; ⟨mc, nsK h1, h2⟩⟩
    have e0 : Env0 P w K mg (hidT s₁.heap H) callerA [] s₁ H := ⟨rfl, hM, fun b o e => of_hidT e, Nat.le_of_eq (hidT_size _ _), trivial, fun b hb => absurd (show b ∈ ([] : List Addr) from hb) (by simp), hok, .of_eq hg⟩
    have hbt : (hidT s₁.heap H).BuiltinsAt mg PT := by
      obtain ⟨bm, ob, b1, b2, b3, b4, b5, b6⟩ := hbm
      have nP : bm ≠ PT := fun z => by
        rw [z, hPT] at b3; cases b3
        have d' : Data.fields _ = Data.plain := b6
        cases d'
      have nM : bm ≠ mainGlobals := fun z => by
        obtain ⟨o, es, ep, e, d, _⟩ := hns
        rw [z, e] at b3; cases b3
        rw [d] at b6; cases b6
      refine ⟨bm, ob, b1, b2, nM, nP, base_of b3 ?_, b4, b5, b6⟩
      cases q : H bm with
      | none => rfl
      | some u =>
        rcases hA bm (by rw [q]; simp) with e' | e'
        · rw [e', ha] at b3; cases b3
          have d' : Data.seq vs.toArray _ = Data.plain := b6
          cases d'
        · exact absurd e' nP
    refine codeAny_mono ((F _ hKb (nsK hns) hbt).run callerA [] s₁ H ⟨[.ref a], []⟩ [.ref a] [.ref a] _ _ hr e0 (hbind s₁ (.ref a)) (.cons rfl .nil) (hsp H hO.1 hS)) fun r s' h => ?_
    cases r with
    | error e => exact (hCX H e s' h).elim
    | ok fl =>
      cases fl with
      | next => exact False.elim h
      | brk => exact False.elim h
      | cont => exact False.elim h
      | ret u =>
        obtain ⟨v, H', os, bare, un, hok', r', q⟩ := h
        have q' : v = .bl true := q
        subst q'
        obtain rfl : u = Value.bool true := r'
        refine ⟨rfl, ⟨fun b o e => ?_, fun b o e => ?_⟩, os, bare⟩
        · cases q : H b with
          | none => exact .inl (un.keep b o e q (by intro z; exact absurd (show b ∈ ([] : List Addr) from z) (by simp)) (by simp))
          | some u =>
            rcases hO.2 b with z | ⟨ob, xs, z⟩ | z
            · rw [q] at z; cases z
            · have z2 := un.frzs b ob _ z
              obtain ⟨e1, _⟩ := hok b _ z
              obtain ⟨e2, _⟩ := hok' b _ z2
              rw [e] at e1; cases e1
              exact .inl e2
            · subst z
              obtain ⟨more, z2⟩ := un.tbls b _ hO.1
              have e2 : s'.heap.get? b = some { cls := .none, data := .fields (#[] ++ more) } := hok' b _ z2
              rw [hPT] at e; cases e
              exact .inr (.inl ⟨hct, rfl, #[], more, rfl, e2⟩)
        · cases q : H b with
          | none => exact ⟨o, un.keep b o e q (by intro z; exact absurd (show b ∈ ([] : List Addr) from z) (by simp)) (by simp)⟩
          | some u => exact un.there b o e (by simp)
  cases hk : K.lookup a with
  | some o =>
    -- the script is one of the module's own objects
    have e := KX a o hk
    rw [ha] at e
    cases e
    refine core (fun b => if b = PT then some (.tbl #[]) else none) ⟨if_pos rfl, fun b => ?_⟩ (.inr ⟨_, vs.toArray, _, hk, rfl, rfl, rfl, by rw [List.size_toArray, lenV]; exact hl, by simpa using rv⟩) (fun b u z => ?_) (fun b z => ?_) fun z => ?_
    · by_cases hb : b = PT
      · exact .inr (.inr hb)
      · exact .inl (if_neg hb)
    · by_cases hb : b = PT
      · have z' := (if_pos hb).symm.trans z
        cases z'
        rw [hb]; exact hPT
      · have z' := (if_neg hb).symm.trans z
        cases z'
    · by_cases hb : b = PT
      · exact .inr hb
      · exact absurd (if_neg hb) z
    · exact absurd (if_neg (fun z2 : a = PT => by rw [z2, hPT] at ha; cases ha)) z
  | none =>
    have haP : a ≠ PT := fun z2 => by rw [z2, hPT] at ha; cases ha
    refine core (fun b => if b = a then some (.frz { cls := .type "list", data := .seq vs.toArray } (.lst (ns.map V.int))) else if b = PT then some (.tbl #[]) else none) ⟨by show (if PT = a then _ else _) = _; rw [if_neg (Ne.symm haP), if_pos rfl], fun b => ?_⟩ (.inl (.inr ⟨{ cls := .type "list", data := .seq vs.toArray }, if_pos rfl⟩)) (fun b u z => ?_) (fun b z => ?_) fun _ => hk
    · by_cases hb : b = a
      · exact .inr (.inl ⟨_, _, if_pos hb⟩)
      · by_cases hb2 : b = PT
        · exact .inr (.inr hb2)
        · exact .inl (by show (if b = a then _ else _) = _; rw [if_neg hb, if_neg hb2])
    · by_cases hb : b = a
      · have z' := (if_pos hb).symm.trans z
        cases z'
        subst hb
        exact ⟨ha, by rw [List.length_map]; exact hl, vs, _, rv, ha⟩
      · have z1 := (if_neg hb).symm.trans z
        by_cases hb2 : b = PT
        · have z' := (if_pos hb2).symm.trans z1
          cases z'
          rw [hb2]; exact hPT
        · have z' := (if_neg hb2).symm.trans z1
          cases z'
    · by_cases hb : b = a
      · exact .inl hb
      · by_cases hb2 : b = PT
        · exact .inr hb2
        · exact absurd (by show (if b = a then _ else _) = _; rw [if_neg hb, if_neg hb2]) z
theorem walk_ofT {PT : Addr} {l : PySem.W.OpenLaw} {n k : Nat} {q : Program} {loose : List Str} {XP : (Str → Option Value) → Heap → Prop} {YP : World → Heap → Prop} {d : DefRec} {K : Params → PySem.W.Frag} {CX : World → CXT} {sp : World → Sp} {x : Str}
    (hn : l.most = some n) (hn2 : n ≤ sizeLine) (hdf : d.params.defaults = []) (hr : Room k callerA)
    (hY : ∀ (w : World) (h : Heap), YP w h → (K w.params).In h) (hT : ∀ (w : World) (h : Heap), YP w h → h.get? PT = some (PySem.W.tabObj #[]) ∧ (K w.params).lookup PT = none ∧ isCodeTable h PT)
    (F : ∀ (w : World) (mg : Str → Option Value) (fa : Addr) (h : Heap), (K w.params).In h → h.Ns mainGlobals mg → mg d.name = some (.ref fa) →
      ∃ fd : FuncData, (∀ (s : Shared) (u : Value), BindsTo s fd ⟨[u], []⟩ [(x, u)]) ∧
        ∀ base : Heap, (K w.params).In base → base.Ns mainGlobals mg → base.BuiltinsAt mg PT → FnOk l.prog w (K w.params) mg base (CX w) k fa fd [x] (sp w))
    (hsp : ∀ (w : World) (H : Hp) (a : Addr) (ns : List Int), ns.length ≤ n → H PT = some (.tbl #[]) → SqL (K w.params) H a (ns.map V.int) → sp w [.ref a] H (fun v _ => v = .bl true) fun _ _ _ => False)
    (hCX : ∀ (w : World) (H : Hp) (s : Shared) (e : Value) (s' : Shared), CX w [] H s (fun _ _ _ => False) e s' → False) :
    PySem.W.WalkO q loose XP YP l.row.toRowW d [] (fun f vs => PySem.call f vs) := by
  refine Att.attach_call hn hdf fun w s₀ s₁ mg mb fa o pm cd doc a vs ns G Y ho hd hcd hmg hobj hints hlen hg => ?_
  have KX := hY w _ Y
  obtain ⟨fd, hb, hF⟩ := F w mg fa _ KX G.T.g hmg
  obtain ⟨t1, t2, t3⟩ := hT w _ Y
  exact law_callT KX G.T.g G.T.b G.T.builtins G.T.nolimit hg hobj hints (Nat.le_trans hlen hn2) hr t1 t2 t3 G.T.bmain hF hb (fun H hO hS => hsp w H a ns hlen hO hS) fun H e s' => hCX w H s₁ e s'
end L2


namespace K64
open PySem L2 PySem.NumText
def top (i : Nat) : Stmt := PySem.Challenge.pw_flyloft_k64_deeds_undone.main.body.getD i (.Pass ⟨0, 0, 0, 0⟩)
abbrev sundone : Stmt := top 2
abbrev sbackwards : Stmt := top 3
abbrev s_law_well : Stmt := top 5
abbrev s_law_draw : Stmt := top 6
abbrev s_law_wells : Stmt := top 7
abbrev s_law_names : Stmt := top 8
abbrev s_law_bar_told : Stmt := top 9
abbrev s_law_bay_told : Stmt := top 10
abbrev s_law_house : Stmt := top 11
abbrev s_law_bar_by : Stmt := top 12
abbrev s_law_piece_by : Stmt := top 13
abbrev s_law_moves : Stmt := top 14
abbrev s_law_deed_by : Stmt := top 15
abbrev s_law_contrary : Stmt := top 16
abbrev s_law_backwards_right : Stmt := top 17
abbrev slaw : Stmt := top 18
theorem same_sq {K : PySem.W.Frag} {H H' : Hp} {a : Addr} {xs : List V} (h : SqL K H a xs) (s : Same H H') : SqL K H' a xs := by
  rcases h with (h | ⟨o, h⟩) | h
  · exact .inl (.inl (s _ _ h))
  · exact .inl (.inr ⟨o, s _ _ h⟩)
  · exact .inr h
theorem same_put {H H' : Hp} {r : Addr} {o : HO} (hr : H r = none) (s : Same H H') : Same H (upd H' r o) := fun b u e => by
  rw [upd_ne (ne_of_none e hr)]; exact s b u e
theorem none_of {H H' : Hp} (s : Same H H') {a : Addr} (h : H' a = none) : H a = none := by
  cases e : H a with
  | none => rfl
  | some o => rw [s a o e] at h; cases h
theorem at_in {rs : List Int} {k : Int} (h0 : 0 ≤ k) (h : k < rs.length) : ∃ v, atI (rs.map V.int) k = some (.int v) := by
  have z := atI_in (xs := rs) h0 h
  exact ⟨_, by rw [atI_map, z]; rfl⟩
theorem log_ok {x : Int} (h0 : 0 < x) (h1 : x ≤ 1000000000000000000000000000000000000000000000000000000000000) : x.natAbs.log2 < 9000 := by
  have h : x.natAbs < 2 ^ 9000 := Nat.lt_of_le_of_lt (show x.natAbs ≤ 1000000000000000000000000000000000000000000000000000000000000 by omega) (by decide +kernel)
  exact (Nat.log2_lt (by omega)).mpr h
/-! ### wells -/
def wellL (c : Int) (d : Bool) (t : Int) : List (Key × V) := [(Sum.inr "cell", .int c), (Sum.inr "digits", .bl d), (Sum.inr "turn", .int t)]
theorem well_c {c : Int} {d : Bool} {t : Int} : valV (wellL c d t) (Sum.inr "cell") = some (.int c) := by with_unfolding_all rfl
theorem well_d {c : Int} {d : Bool} {t : Int} : valV (wellL c d t) (Sum.inr "digits") = some (.bl d) := by with_unfolding_all rfl
theorem well_t {c : Int} {d : Bool} {t : Int} : valV (wellL c d t) (Sum.inr "turn") = some (.int t) := by with_unfolding_all rfl
theorem well_pc {c c' : Int} {d : Bool} {t : Int} : putK (wellL c d t) (Sum.inr "cell") (.int c') = wellL c' d t := by with_unfolding_all rfl
theorem well_pt {c t' : Int} {d : Bool} {t : Int} : putK (wellL c d t) (Sum.inr "turn") (.int t') = wellL c d t' := by with_unfolding_all rfl
theorem well_len {c : Int} {d : Bool} {t : Int} : (wellL c d t).length = 3 := rfl
theorem well_mk {c : Int} {d : Bool} {t : Int} : mergeK [] [(Sum.inr "cell", .int c), (Sum.inr "digits", .bl d), (Sum.inr "turn", .int t)] = wellL c d t := by with_unfolding_all rfl
/-- a well at a: its turns at most n -/
def Wl (H : Hp) (a : Addr) (n : Int) : Prop := ∃ c d t, H a = some (.dK (wellL c d t)) ∧ 0 ≤ t ∧ t ≤ n
theorem Wl.mono {H : Hp} {a : Addr} {n m : Int} (h : Wl H a n) (hm : n ≤ m) : Wl H a m := let ⟨c, d, t, e, h0, h1⟩ := h; ⟨c, d, t, e, h0, Int.le_trans h1 hm⟩
/-- all stays but what is at the addresses es -/
def SameE (es : List Addr) (H H' : Hp) : Prop := ∀ b o, H b = some o → b ∉ es → H' b = some o
theorem SameE.refl {es : List Addr} {H : Hp} : SameE es H H := fun _ _ e _ => e
theorem SameE.trans {es : List Addr} {H H' H2 : Hp} (a : SameE es H H') (b : SameE es H' H2) : SameE es H H2 := fun x o e n => b x o (a x o e n) n
theorem SameE.more {es : List Addr} {H H' H2 : Hp} (a : SameE es H H') (b : Same H' H2) : SameE es H H2 := fun x o e n => b x o (a x o e n)
theorem Same.thenE {es : List Addr} {H H' H2 : Hp} (a : Same H H') (b : SameE es H' H2) : SameE es H H2 := fun x o e n => b x o (a x o e) n
theorem Wl.same {H H' : Hp} {a : Addr} {n : Int} (h : Wl H a n) (s : Same H H') : Wl H' a n := let ⟨c, d, t, e, h0⟩ := h; ⟨c, d, t, s _ _ e, h0⟩
theorem Wl.sameE {es : List Addr} {H H' : Hp} {a : Addr} {n : Int} (h : Wl H a n) (s : SameE es H H') (ha : a ∉ es) : Wl H' a n := let ⟨c, d, t, e, h0⟩ := h; ⟨c, d, t, s _ _ e ha, h0⟩
/-- lists and tuples stay where only wells and the table turn -/
def Dky : Option HO → Prop
  | some (.dK _) => True
  | some (.tbl _) => True
  | _ => False
theorem SameE.lst {es : List Addr} {H H' : Hp} (s : SameE es H H') (hd : ∀ b ∈ es, Dky (H b)) {a : Addr} {xs : List V} (h : H a = some (.lst xs)) : H' a = some (.lst xs) := s _ _ h fun z => by have := hd a z; rw [h] at this; exact this
theorem SameE.tup {es : List Addr} {H H' : Hp} (s : SameE es H H') (hd : ∀ b ∈ es, Dky (H b)) {a : Addr} {xs : List V} (h : H a = some (.tup xs)) : H' a = some (.tup xs) := s _ _ h fun z => by have := hd a z; rw [h] at this; exact this
theorem Wl.dky {H : Hp} {a : Addr} {n : Int} (h : Wl H a n) : ∀ b ∈ [a], Dky (H b) := fun b hb => by
  obtain rfl : b = a := by simpa using hb
  obtain ⟨c, d, t, e, _⟩ := h
  rw [e]; trivial
def big60 : Int := 1000000000000000000000000000000000000000000000000000000000000
def spWell (K : PySem.W.Frag) : Sp := fun vs H Q _ => ∃ (a : Addr) (ns : List Int) (k : Int), vs = [.ref a, .int k] ∧ SqL K H a (ns.map V.int) ∧ ns.length ≤ 63 ∧ 0 ≤ k ∧ ∀ (p : Addr) (H' : Hp), Same H H' → H p = none → Wl H' p 0 → Q (.ref p) H'
def spDraw : Sp := fun vs H Q _ => ∃ (a : Addr) (m n : Int), vs = [.ref a, .int m] ∧ Wl H a n ∧ n ≤ 1000000 ∧ 0 < m ∧ m ≤ big60 ∧ ∀ (v : Int) (H' : Hp), 0 ≤ v → v < m → SameE [a] H H' → Wl H' a (n + 1) → Q (.int v) H'
def spWells (K : PySem.W.Frag) : Sp := fun vs H Q _ => ∃ (a : Addr) (ns : List Int), vs = [.ref a, .int 1, .int 60] ∧ SqL K H a (ns.map V.int) ∧ ns.length ≤ 63 ∧ ∀ (r : Addr) (ps : List Addr) (H' : Hp), Same H H' → H r = none → H' r = some (.lst (ps.map V.ref)) → ps.length ≤ 60 → (∀ p ∈ ps, H p = none ∧ Wl H' p 10) → Q (.ref r) H'
/-- a text of few signs -/
def NmOk (n : Nat) (x : Str) : Prop := x.length ≤ n ∧ ∀ c ∈ x.cps.toList, c < 128
def spNames : Sp := fun vs H Q _ => ∃ (a : Addr) (n many : Int) (bs : Str), vs = [.ref a, .int many, .str bs] ∧ Wl H a n ∧ n ≤ 900000 ∧ 0 ≤ many ∧ many ≤ 12 ∧ NmOk 8 bs ∧
  ∀ (r : Addr) (xs : List Str) (H' : Hp), SameE [a] H H' → Wl H' a (n + 40) → H r = none → H' r = some (.lst (xs.map V.str)) → (xs.length : Int) = many → (∀ x ∈ xs, NmOk 20 x) → Q (.ref r) H'
def spBarT : Sp := fun vs H Q _ => ∃ (a : Addr) (n pl hv : Int), vs = [.ref a, .int pl, .int hv] ∧ Wl H a n ∧ n ≤ 900000 ∧ 0 < pl ∧ pl ≤ 10000000000000 ∧ 0 ≤ hv ∧ hv ≤ 10000000000000 ∧
  ∀ (p : Addr) (z0 z1 z2 z3 z4 z5 : Int) (H' : Hp), SameE [a] H H' → Wl H' a (n + 20) → H p = none → H' p = some (.tup [.int z0, .int z1, .int z2, .int z3, .int z4, .int z5]) → Q (.ref p) H'
theorem slice_ok {n : Nat} {x : Str} (lo hi : Option Int) (h : NmOk n x) : NmOk n (Txt.slice x lo hi) := by
  unfold Txt.slice
  split
  · exact h
  · refine ⟨?_, fun c hc => ?_⟩
    · show (((PySem.Builtin.Str.strSliceIndices lo hi 1 x.length).filterMap (x.cps[·]?)).toArray).size ≤ n
      rw [List.size_toArray]
      exact Nat.le_trans (List.length_filterMap_le _ _) (Nat.le_trans (sliceIndices_le lo hi x.length) h.1)
    · have hc : c ∈ (PySem.Builtin.Str.strSliceIndices lo hi 1 x.length).filterMap (x.cps[·]?) := by simpa using hc
      obtain ⟨i, _, e⟩ := List.mem_filterMap.mp hc
      exact h.2 c (by have := Array.mem_of_getElem? e; simpa using this)
theorem app_ok {n m : Nat} {x y : Str} (hx : NmOk n x) (hy : NmOk m y) : NmOk (n + m) (x ++ y) := by
  refine ⟨?_, fun c hc => ?_⟩
  · show (x.cps ++ y.cps).size ≤ n + m
    rw [Array.size_append]
    have a : x.cps.size ≤ n := hx.1
    have b : y.cps.size ≤ m := hy.1
    omega
  · have hc : c ∈ (x.cps ++ y.cps).toList := hc
    rw [Array.toList_append] at hc
    rcases List.mem_append.mp hc with h | h
    · exact hx.2 c h
    · exact hy.2 c h
theorem NmOk.mono {n m : Nat} {x : Str} (h : NmOk n x) (hm : n ≤ m) : NmOk m x := ⟨Nat.le_trans h.1 hm, h.2⟩
def lett : Str := "abcdefghijklmnopqrstuvwxyz"
theorem lett_at {k : Int} (h0 : 0 ≤ k) (h1 : k < 26) : ∃ c, atI lett.cps.toList k = some c ∧ NmOk 1 ⟨#[c]⟩ := by
  have hl : lett.cps.toList.length = 26 := by decide +kernel
  have ha : ∀ c ∈ lett.cps.toList, c < 128 := by decide +kernel
  refine ⟨_, atI_in h0 (by rw [hl]; omega), by show (1 : Nat) ≤ 1; omega, fun c hc => ?_⟩
  have hc : c ∈ [lett.cps.toList[k.toNat]'(by rw [hl]; omega)] := hc
  rw [List.mem_singleton.mp hc]
  exact ha _ (List.getElem_mem _)
theorem at4 (a b c d p : Int) (h0 : 0 ≤ p) (h1 : p < 4) : ∃ x, atI [V.int a, V.int b, V.int c, V.int d] p = some (.int x) ∧ (x = a ∨ x = b ∨ x = c ∨ x = d) := by
  rcases (show p = 0 ∨ p = 1 ∨ p = 2 ∨ p = 3 by omega) with rfl | rfl | rfl | rfl
  · exact ⟨a, atI_nat (j := 0) rfl, .inl rfl⟩
  · exact ⟨b, atI_nat (j := 1) rfl, .inr (.inl rfl)⟩
  · exact ⟨c, atI_nat (j := 2) rfl, .inr (.inr (.inl rfl))⟩
  · exact ⟨d, atI_nat (j := 3) rfl, .inr (.inr (.inr rfl))⟩
theorem strs_snoc {xs : List Str} {x : Str} : xs.map V.str ++ [V.str x] = (xs ++ [x]).map V.str := by rw [List.map_append]; rfl
theorem SameE.new {es : List Addr} {H H' : Hp} {p : Addr} (s : SameE es H H') (hp : H' p = none) (o : HO) : SameE es H (upd H' p o) := fun b u e n => by
  have q := s b u e n
  rw [upd_ne (ne_of_none q hp)]; exact q
theorem SameE.put {es : List Addr} {H H' : Hp} {p : Addr} (s : SameE es H H') (hp : H p = none) (o : HO) : SameE es H (upd H' p o) := fun b u e n => by
  rw [upd_ne (ne_of_none e hp)]; exact s b u e n
theorem Wl.new {H : Hp} {a p : Addr} {n : Int} (h : Wl H a n) (hp : H p = none) (o : HO) : Wl (upd H p o) a n := h.same (same_new hp o)
theorem Wl.put {H : Hp} {a p : Addr} {n : Int} (h : Wl H a n) (hp : p ≠ a) (o : HO) : Wl (upd H p o) a n := let ⟨c, d, t, e, h0⟩ := h; ⟨c, d, t, by rw [upd_ne (Ne.symm hp)]; exact e, h0⟩
theorem Wl.ne {H : Hp} {a p : Addr} {n : Int} {xs : List V} (h : Wl H a n) (hp : H p = some (.lst xs)) : p ≠ a := by
  obtain ⟨c, d, t, e, _⟩ := h
  exact ne_of hp e (by intro z; cases z)
theorem noneE {es : List Addr} {H H' : Hp} (s : SameE es H H') {a : Addr} (h : H' a = none) (ha : a ∉ es) : H a = none := by
  cases e : H a with
  | none => rfl
  | some o => rw [s a o e ha] at h; cases h
theorem Wl.notin {H : Hp} {a p : Addr} {n : Int} (h : Wl H a n) (hp : H p = none) : p ∉ [a] := fun z => by
  obtain rfl : p = a := by simpa using z
  obtain ⟨c, d, t, e, _⟩ := h
  rw [e] at hp; cases hp
theorem cut_take {xs : List V} {n : Nat} : cutV xs none (some (n : Int)) = xs.take n := by
  unfold cutV
  rw [HT.sIx_none, HT.sIx_nat, List.drop_zero, Nat.sub_zero, ← List.take_eq_take_min]
def lamPos : Pos := ⟨54, 57, 54, 109⟩
def lamQ : Str := ("_law_bay_told" : Str) ++ ".<locals>." ++ "<lambda>"
theorem ltH {P : Addr} {l : Pos} {q : Str} {H H' : Hp} (h : LamT P l q H) (k : ∀ b o, H b = some o → (∀ kvs, o ≠ .dK kvs) → (∀ xs, o ≠ .lst xs) → H' b = some o) : LamT P l q H' := by
  obtain ⟨ps, e, t, c⟩ := h
  refine ⟨ps, k _ _ e (fun _ z => by cases z) (fun _ z => by cases z), t, ?_⟩
  rcases c with c | ⟨c', c1, c2⟩
  · exact .inl c
  · exact .inr ⟨c', c1, k _ _ c2 (fun _ z => by cases z) (fun _ z => by cases z)⟩
theorem ltNew {P : Addr} {l : Pos} {q : Str} {H : Hp} {p : Addr} (h : LamT P l q H) (hp : H p = none) (o : HO) : LamT P l q (upd H p o) := ltH h fun b u e _ _ => same_new hp o b u e
theorem ltW {P : Addr} {l : Pos} {q : Str} {H H' : Hp} {a : Addr} {n : Int} (h : LamT P l q H) (w : Wl H a n) (s : SameE [a] H H') : LamT P l q H' := ltH h fun b u e k _ => s b u e (fun z => by
  obtain rfl : b = a := by simpa using z
  obtain ⟨c, d, t, ea, _⟩ := w
  rw [ea] at e; cases e; exact k _ rfl)
theorem ltL {P : Addr} {l : Pos} {q : Str} {H : Hp} {p : Addr} {xs : List V} (h : LamT P l q H) (hp : H p = some (.lst xs)) (o : HO) : LamT P l q (upd H p o) := ltH h fun b u e _ k => by
  rw [upd_ne (fun z => by subst z; rw [hp] at e; cases e; exact k _ rfl)]; exact e
theorem ltD {P : Addr} {l : Pos} {q : Str} {H : Hp} {p : Addr} {xs : List (Key × V)} (h : LamT P l q H) (hp : H p = some (.dK xs)) (o : HO) : LamT P l q (upd H p o) := ltH h fun b u e k _ => by
  rw [upd_ne (fun z => by subst z; rw [hp] at e; cases e; exact k _ rfl)]; exact e
theorem lamD {P : Addr} {l : Pos} {q : Str} {H : Hp} {p : Addr} {xs : List (Key × V)} (h : LamT P l q H) (hp : H p = some (.dK xs)) : p ≠ P := by
  obtain ⟨ps, e, _⟩ := h
  intro z; subst z; rw [hp] at e; cases e
theorem lamL {P : Addr} {l : Pos} {q : Str} {H : Hp} {p : Addr} {xs : List V} (h : LamT P l q H) (hp : H p = some (.lst xs)) : p ≠ P := by
  obtain ⟨ps, e, _⟩ := h
  intro z; subst z; rw [hp] at e; cases e
theorem lamTu {P : Addr} {l : Pos} {q : Str} {H : Hp} {p : Addr} {xs : List V} (h : LamT P l q H) (hp : H p = some (.tup xs)) : p ≠ P := by
  obtain ⟨ps, e, _⟩ := h
  intro z; subst z; rw [hp] at e; cases e
/-- bars of a house: their list, the told ones -/
def BarsAt (H : Hp) (hs bb db : Addr) (kvs1 kvs2 : List (Key × V)) (xs : List Str) : Prop := H hs = some (.dK kvs1) ∧ valV kvs1 (Sum.inr "bars") = some (.ref bb) ∧ valV kvs1 (Sum.inr "bar") = some (.ref db) ∧ H bb = some (.lst (xs.map V.str)) ∧ H db = some (.dK kvs2) ∧
  (∀ y ∈ xs, ∃ tp zs x, valV kvs2 (Sum.inr y) = some (.ref tp) ∧ H tp = some (.tup zs) ∧ zs[1]? = some (.int x))
theorem BarsAt.keep {H H' : Hp} {hs bb db : Addr} {kvs1 kvs2 : List (Key × V)} {xs : List Str} (b : BarsAt H hs bb db kvs1 kvs2 xs) {es : List Addr} (s : SameE es H H') (n1 : hs ∉ es) (n2 : db ∉ es) (n3 : ∀ e ∈ es, Dky (H e)) : BarsAt H' hs bb db kvs1 kvs2 xs := by
  obtain ⟨h1, h2, h3, h4, h5, h6⟩ := b
  refine ⟨s _ _ h1 n1, h2, h3, s.lst n3 h4, s _ _ h5 n2, fun y hy => ?_⟩
  obtain ⟨tp, zs, x, q1, q2, q3⟩ := h6 y hy
  exact ⟨tp, zs, x, q1, s.tup n3 q2, q3⟩
theorem BarsAt.new {H : Hp} {hs bb db : Addr} {kvs1 kvs2 : List (Key × V)} {xs : List Str} (b : BarsAt H hs bb db kvs1 kvs2 xs) {p : Addr} (hp : H p = none) (o : HO) : BarsAt (upd H p o) hs bb db kvs1 kvs2 xs := by
  refine b.keep (es := []) (fun b u e _ => same_new hp o b u e) (by simp) (by simp) (fun e h => by cases h)
theorem SameE.ofP {P a : Addr} {H H' : Hp} (s : SameP P H H') : SameE [a, P] H H' := fun b o e n => s b o e (fun z => n (by simp [z]))
theorem SameE.wide {P a : Addr} {H H' : Hp} (s : SameE [a] H H') : SameE [a, P] H H' := fun b o e n => s b o e (fun z => n (by simp [List.mem_singleton.mp z]))
def spBay (PT : Addr) : Sp := fun vs H Q _ => ∃ (a : Addr) (n : Int) (hs bb db : Addr) (kvs1 kvs2 : List (Key × V)) (xs : List Str), vs = [.ref a, .ref hs] ∧ Wl H a n ∧ n ≤ 900000 ∧ BarsAt H hs bb db kvs1 kvs2 xs ∧ xs.length ≤ 8 ∧ hs ≠ a ∧ db ≠ a ∧ LamT PT lamPos lamQ H ∧
  ∀ (r : Addr) (ys : List Str) (H' : Hp), SameE [a, PT] H H' → Wl H' a (n + 8) → LamT PT lamPos lamQ H' → H r = none → H' r = some (.lst (ys.map V.str)) → Q (.ref r) H'
theorem eqT_nil {H : Hp} {n : Nat} {a p : Addr} {xs : List V} (ha : H a = some (.lst xs)) (hp : H p = some (.lst [])) : eqT H n (.ref a) (.ref p) = some (decide (xs = [])) := by
  rw [eqT_rr]
  unfold eqSeq
  rw [ha, hp]
  cases xs with
  | nil => rfl
  | cons x xs => rfl
theorem at_last {zs : List Str} (h : zs ≠ []) : ∃ z ∈ zs, atI (zs.map V.str) (-1) = some (.str z) := by
  refine ⟨zs.getLast h, List.getLast_mem h, ?_⟩
  conv => lhs; rw [← List.dropLast_concat_getLast h, List.map_append]
  exact atI_last _ _
theorem BarsAt.putL {H : Hp} {hs bb db : Addr} {kvs1 kvs2 : List (Key × V)} {xs : List Str} (b : BarsAt H hs bb db kvs1 kvs2 xs) {p : Addr} {zs : List V} (hp : H p = some (.lst zs)) (nb : bb ≠ p) (o : HO) : BarsAt (upd H p o) hs bb db kvs1 kvs2 xs := by
  obtain ⟨h1, h2, h3, h4, h5, h6⟩ := b
  refine ⟨by rw [upd_ne (ne_of h1 hp (by intro z; cases z))]; exact h1, h2, h3, by rw [upd_ne nb]; exact h4, by rw [upd_ne (ne_of h5 hp (by intro z; cases z))]; exact h5, fun y hy => ?_⟩
  obtain ⟨tp, zs, x, q1, q2, q3⟩ := h6 y hy
  exact ⟨tp, zs, x, q1, by rw [upd_ne (ne_of q2 hp (by intro z; cases z))]; exact q2, q3⟩
/-- a house: its bars and pieces -/
def HouseOk (H : Hp) (h : Addr) (bars pieces : List Str) : Prop := ∃ kvs b p, H h = some (.dK kvs) ∧ valV kvs (Sum.inr "bars") = some (.ref b) ∧ valV kvs (Sum.inr "pieces") = some (.ref p) ∧ H b = some (.lst (bars.map V.str)) ∧ H p = some (.lst (pieces.map V.str)) ∧ 1 ≤ bars.length ∧ bars.length ≤ 8 ∧ pieces.length ≤ 12 ∧ (∀ x ∈ bars, NmOk 20 x) ∧ ∀ x ∈ pieces, NmOk 20 x
def spHouse (PT : Addr) : Sp := fun vs H Q _ => ∃ (a : Addr), vs = [.ref a] ∧ Wl H a 0 ∧ LamT PT lamPos lamQ H ∧
  ∀ (h : Addr) (bars pieces : List Str) (H' : Hp), SameE [a, PT] H H' → H h = none → HouseOk H' h bars pieces → Q (.ref h) H'
theorem join_ok : ∀ ys : List Str, (∀ y ∈ ys, NmOk 1 y) → NmOk ys.length (PySem.Str.join "" ys)
  | [], _ => ⟨Nat.le_refl _, fun c hc => by cases hc⟩
  | [x], h => h x List.mem_cons_self
  | x :: y :: r, h => by
    have z := join_ok (y :: r) fun a ha => h a (List.mem_cons_of_mem _ ha)
    show NmOk _ (x ++ "" ++ PySem.Str.join "" (y :: r))
    have e : NmOk 0 ("" : Str) := ⟨Nat.le_refl _, fun c hc => by cases hc⟩
    exact (app_ok (app_ok (h x List.mem_cons_self) e) z).mono (by simp only [List.length_cons]; omega)
theorem at3 (a b c p : Int) (h0 : 0 ≤ p) (h1 : p < 3) : ∃ x, atI [V.int a, V.int b, V.int c] p = some (.int x) ∧ (x = a ∨ x = b ∨ x = c) := by
  rcases (show p = 0 ∨ p = 1 ∨ p = 2 by omega) with rfl | rfl | rfl
  · exact ⟨a, atI_nat (j := 0) rfl, .inl rfl⟩
  · exact ⟨b, atI_nat (j := 1) rfl, .inr (.inl rfl)⟩
  · exact ⟨c, atI_nat (j := 2) rfl, .inr (.inr rfl)⟩
theorem sum_ones : ∀ ys : List Str, (∀ y ∈ ys, NmOk 1 y) → (ys.map (·.length)).sum ≤ ys.length
  | [], _ => Nat.le_refl _
  | x :: r, h => by
    have := sum_ones r fun a ha => h a (List.mem_cons_of_mem _ ha)
    have := (h x List.mem_cons_self).1
    simp only [List.map_cons, List.sum_cons, List.length_cons]; omega
/-! ### the house under way -/
structure HS (PT a hs db ep ly : Addr) (H0 H : Hp) (n : Int) (k1 k2 k3 : List (Key × V)) (zs : List V) : Prop where
  s : SameE [a, PT] H0 H
  w : Wl H a n
  t : LamT PT lamPos lamQ H
  h : H hs = some (.dK k1)
  d : H db = some (.dK k2)
  p : H ep = some (.dK k3)
  l : H ly = some (.lst zs)
  nh : H0 hs = none
  nd : H0 db = none
  np : H0 ep = none
  nl : H0 ly = none
  ah : hs ≠ a
  ad : db ≠ a
  ap : ep ≠ a
  hd : hs ≠ db
  hp : hs ≠ ep
  dp : db ≠ ep
/-- tuples stay, and lists but the one at ly -/
def Kt (ly : Addr) (H H' : Hp) : Prop := (∀ b xs, H b = some (.tup xs) → H' b = some (.tup xs)) ∧ ∀ b xs, H b = some (.lst xs) → b ≠ ly → H' b = some (.lst xs)
theorem Kt.refl {ly : Addr} {H : Hp} : Kt ly H H := ⟨fun _ _ e => e, fun _ _ e _ => e⟩
theorem Kt.trans {ly : Addr} {H H1 H2 : Hp} (x : Kt ly H H1) (y : Kt ly H1 H2) : Kt ly H H2 := ⟨fun b xs e => y.1 b xs (x.1 b xs e), fun b xs e n => y.2 b xs (x.2 b xs e n) n⟩
theorem Kt.new {ly : Addr} {H : Hp} {p : Addr} (hp : H p = none) (o : HO) : Kt ly H (upd H p o) := ⟨fun b xs e => same_new hp o _ _ e, fun b xs e _ => same_new hp o _ _ e⟩
theorem Kt.dk {ly : Addr} {H : Hp} {p : Addr} {k : List (Key × V)} (hp : H p = some (.dK k)) (o : HO) : Kt ly H (upd H p o) := ⟨fun b xs e => by rw [upd_ne (ne_of e hp (by intro z; cases z))]; exact e, fun b xs e _ => by rw [upd_ne (ne_of e hp (by intro z; cases z))]; exact e⟩
theorem Kt.l {ly : Addr} {H : Hp} {zs : List V} (hp : H ly = some (.lst zs)) (o : HO) : Kt ly H (upd H ly o) := ⟨fun b xs e => by rw [upd_ne (ne_of e hp (by intro z; cases z))]; exact e, fun b xs e n => by rw [upd_ne n]; exact e⟩
section
variable {PT a hs db ep ly : Addr} {H0 H H' : Hp} {n m : Int} {k1 k2 k3 : List (Key × V)} {zs : List V}
theorem HS.mono (x : HS PT a hs db ep ly H0 H n k1 k2 k3 zs) (h : n ≤ m) : HS PT a hs db ep ly H0 H m k1 k2 k3 zs := { x with w := x.w.mono h }
theorem HS.dkyP (x : HS PT a hs db ep ly H0 H n k1 k2 k3 zs) : ∀ b ∈ [a, PT], Dky (H b) := fun b hb => by
  rcases List.mem_cons.mp hb with e | e
  · subst e; exact x.w.dky _ List.mem_cons_self
  · obtain rfl : b = PT := by simpa using e
    obtain ⟨ps, e, _⟩ := x.t
    rw [e]; trivial
theorem HS.kD (x : HS PT a hs db ep ly H0 H n k1 k2 k3 zs) (s : SameE [a] H H') : Kt ly H H' := ⟨fun b xs e => s.tup x.w.dky e, fun b xs e _ => s.lst x.w.dky e⟩
theorem HS.kP (x : HS PT a hs db ep ly H0 H n k1 k2 k3 zs) (s : SameE [a, PT] H H') : Kt ly H H' := ⟨fun b xs e => s.tup x.dkyP e, fun b xs e _ => s.lst x.dkyP e⟩
theorem HS.both (x : HS PT a hs db ep ly H0 H n k1 k2 k3 zs) (s : SameE [a, PT] H H') (w : Wl H' a m) (t : LamT PT lamPos lamQ H') : HS PT a hs db ep ly H0 H' m k1 k2 k3 zs :=
  { x with s := x.s.trans s, w := w, t := t,
           h := s _ _ x.h (by have := x.ah; have := lamD x.t x.h; simp [*]),
           d := s _ _ x.d (by have := x.ad; have := lamD x.t x.d; simp [*]),
           p := s _ _ x.p (by have := x.ap; have := lamD x.t x.p; simp [*]),
           l := s.lst x.dkyP x.l }
theorem HS.draw (x : HS PT a hs db ep ly H0 H n k1 k2 k3 zs) (s : SameE [a] H H') (w : Wl H' a m) : HS PT a hs db ep ly H0 H' m k1 k2 k3 zs := x.both s.wide w (ltW x.t x.w s)
theorem HS.new (x : HS PT a hs db ep ly H0 H n k1 k2 k3 zs) {p : Addr} (hp : H p = none) (o : HO) : HS PT a hs db ep ly H0 (upd H p o) n k1 k2 k3 zs :=
  x.both (SameE.refl.new hp o) (x.w.new hp o) (ltNew x.t hp o)
theorem HS.wa (x : HS PT a hs db ep ly H0 H n k1 k2 k3 zs) {b : Addr} (hb : b ≠ a) (o : HO) : Wl (upd H b o) a n := x.w.put hb o
theorem HS.setH (x : HS PT a hs db ep ly H0 H n k1 k2 k3 zs) (k : List (Key × V)) : HS PT a hs db ep ly H0 (upd H hs (.dK k)) n k k2 k3 zs :=
  { x with s := x.s.put x.nh _, w := x.wa x.ah _, t := ltD x.t x.h _, h := upd_same, d := by rw [upd_ne x.hd.symm]; exact x.d, p := by rw [upd_ne x.hp.symm]; exact x.p,
           l := by rw [upd_ne (ne_of x.l x.h (by intro z; cases z))]; exact x.l }
theorem HS.setD (x : HS PT a hs db ep ly H0 H n k1 k2 k3 zs) (k : List (Key × V)) : HS PT a hs db ep ly H0 (upd H db (.dK k)) n k1 k k3 zs :=
  { x with s := x.s.put x.nd _, w := x.wa x.ad _, t := ltD x.t x.d _, d := upd_same, h := by rw [upd_ne x.hd]; exact x.h, p := by rw [upd_ne x.dp.symm]; exact x.p,
           l := by rw [upd_ne (ne_of x.l x.d (by intro z; cases z))]; exact x.l }
theorem HS.setP (x : HS PT a hs db ep ly H0 H n k1 k2 k3 zs) (k : List (Key × V)) : HS PT a hs db ep ly H0 (upd H ep (.dK k)) n k1 k2 k zs :=
  { x with s := x.s.put x.np _, w := x.wa x.ap _, t := ltD x.t x.p _, p := upd_same, h := by rw [upd_ne x.hp]; exact x.h, d := by rw [upd_ne x.dp]; exact x.d,
           l := by rw [upd_ne (ne_of x.l x.p (by intro z; cases z))]; exact x.l }
theorem HS.setL (x : HS PT a hs db ep ly H0 H n k1 k2 k3 zs) (ys : List V) : HS PT a hs db ep ly H0 (upd H ly (.lst ys)) n k1 k2 k3 ys :=
  { x with s := x.s.put x.nl _, w := x.wa (x.w.ne x.l) _, t := ltL x.t x.l _, l := upd_same, h := by rw [upd_ne (ne_of x.h x.l (by intro z; cases z))]; exact x.h, d := by rw [upd_ne (ne_of x.d x.l (by intro z; cases z))]; exact x.d,
           p := by rw [upd_ne (ne_of x.p x.l (by intro z; cases z))]; exact x.p }
end
section
variable (pl : Int) (db ep ly bb pp : Addr) (tu : Int)
def hk0 : List (Key × V) := [(Sum.inr "plate", .int pl), (Sum.inr "bar", .ref db), (Sum.inr "piece", .ref ep), (Sum.inr "bays", .ref ly)]
def hk1 : List (Key × V) := [(Sum.inr "plate", .int pl), (Sum.inr "bar", .ref db), (Sum.inr "piece", .ref ep), (Sum.inr "bays", .ref ly), (Sum.inr "bars", .ref bb)]
def hk2 : List (Key × V) := [(Sum.inr "plate", .int pl), (Sum.inr "bar", .ref db), (Sum.inr "piece", .ref ep), (Sum.inr "bays", .ref ly), (Sum.inr "bars", .ref bb), (Sum.inr "pieces", .ref pp)]
def hk3 : List (Key × V) := [(Sum.inr "plate", .int pl), (Sum.inr "bar", .ref db), (Sum.inr "piece", .ref ep), (Sum.inr "bays", .ref ly), (Sum.inr "bars", .ref bb), (Sum.inr "pieces", .ref pp), (Sum.inr "turn", .int tu)]
theorem hk0_mk : mergeK [] (hk0 pl db ep ly) = hk0 pl db ep ly := by with_unfolding_all rfl
theorem hk0_1 : putK (hk0 pl db ep ly) (Sum.inr "bars") (.ref bb) = hk1 pl db ep ly bb := by with_unfolding_all rfl
theorem hk1_2 : putK (hk1 pl db ep ly bb) (Sum.inr "pieces") (.ref pp) = hk2 pl db ep ly bb pp := by with_unfolding_all rfl
theorem hk2_3 : putK (hk2 pl db ep ly bb pp) (Sum.inr "turn") (.int tu) = hk3 pl db ep ly bb pp tu := by with_unfolding_all rfl
theorem hk1_bars : valV (hk1 pl db ep ly bb) (Sum.inr "bars") = some (.ref bb) := by with_unfolding_all rfl
theorem hk1_bar : valV (hk1 pl db ep ly bb) (Sum.inr "bar") = some (.ref db) := by with_unfolding_all rfl
theorem hk2_bars : valV (hk2 pl db ep ly bb pp) (Sum.inr "bars") = some (.ref bb) := by with_unfolding_all rfl
theorem hk2_bar : valV (hk2 pl db ep ly bb pp) (Sum.inr "bar") = some (.ref db) := by with_unfolding_all rfl
theorem hk2_pieces : valV (hk2 pl db ep ly bb pp) (Sum.inr "pieces") = some (.ref pp) := by with_unfolding_all rfl
theorem hk2_piece : valV (hk2 pl db ep ly bb pp) (Sum.inr "piece") = some (.ref ep) := by with_unfolding_all rfl
theorem hk2_bays : valV (hk2 pl db ep ly bb pp) (Sum.inr "bays") = some (.ref ly) := by with_unfolding_all rfl
theorem hk3_bars : valV (hk3 pl db ep ly bb pp tu) (Sum.inr "bars") = some (.ref bb) := by with_unfolding_all rfl
theorem hk3_pieces : valV (hk3 pl db ep ly bb pp tu) (Sum.inr "pieces") = some (.ref pp) := by with_unfolding_all rfl
end
theorem newP {PT a p : Addr} {H : Hp} {n : Int} (w : Wl H a n) (t : LamT PT lamPos lamQ H) (hp : H p = none) : p ∉ [a, PT] := fun z => by
  rcases List.mem_cons.mp z with e | e
  · obtain ⟨c, d, t, ea, _⟩ := w
    rw [e, ea] at hp; cases hp
  · obtain rfl : p = PT := by simpa using e
    obtain ⟨ps, e, _⟩ := t
    rw [e] at hp; cases hp
theorem upd_none {H : Hp} {p b : Addr} {o : HO} (h : upd H p o b = none) : H b = none ∧ b ≠ p := by
  have n : b ≠ p := fun z => by subst z; rw [upd_same] at h; cases h
  exact ⟨by rw [upd_ne n] at h; exact h, n⟩
theorem hs_mk {PT a p p1 p2 p3 : Addr} {H0 H : Hp} {n : Int} (s : SameE [a, PT] H0 H) (w : Wl H a n) (t : LamT PT lamPos lamQ H) (h : H p = none) (h1 : upd H p (.dK []) p1 = none) (h2 : upd (upd H p (.dK [])) p1 (.dK []) p2 = none)
    (h3 : upd (upd (upd H p (.dK [])) p1 (.dK [])) p2 (.dK []) p3 = none) : HS PT a p p1 p2 p3 H0 (upd (upd (upd (upd H p (.dK [])) p1 (.dK [])) p2 (.dK [])) p3 (.lst [])) n [] [] [] [] := by
  have s1 := s.new h (.dK [])
  have w1 := w.new h (.dK [])
  have t1 := ltNew t h (.dK [])
  have e1 : upd H p (.dK []) p = some (.dK []) := upd_same
  have s2 := s1.new h1 (.dK [])
  have w2 := w1.new h1 (.dK [])
  have t2 := ltNew t1 h1 (.dK [])
  have e2 : upd (upd H p (.dK [])) p1 (.dK []) p1 = some (.dK []) := upd_same
  have s3 := s2.new h2 (.dK [])
  have w3 := w2.new h2 (.dK [])
  have t3 := ltNew t2 h2 (.dK [])
  have n1 := newP w1 t1 h1
  have n0 := newP w t h
  have n2 := newP w2 t2 h2
  exact { s := s3.new h3 _, w := w3.new h3 _, t := ltNew t3 h3 _, h := same_new h3 _ _ _ (same_new h2 _ _ _ (same_new h1 _ _ _ e1)), d := same_new h3 _ _ _ (same_new h2 _ _ _ e2), p := same_new h3 _ _ _ upd_same, l := upd_same,
          nh := noneE s h n0, nd := noneE s1 h1 n1, np := noneE s2 h2 n2, nl := noneE s3 h3 (newP w3 t3 h3),
          ah := fun z => n0 (by simp [z]), ad := fun z => n1 (by simp [z]), ap := fun z => n2 (by simp [z]),
          hd := (upd_none h1).2.symm, hp := (upd_none (upd_none h2).1).2.symm, dp := (upd_none h2).2.symm }
theorem hs_kvs {pl : Int} {db ep ly : Addr} : [(V.str (Str.ofString "plate"), V.int pl), (V.str (Str.ofString "bar"), V.ref db), (V.str (Str.ofString "piece"), V.ref ep), (V.str (Str.ofString "bays"), V.ref ly)] = (hk0 pl db ep ly).map (fun kv => (kV kv.1, kv.2)) := rfl
theorem at2 (a b : Int) (c : Prop) [Decidable c] : ∃ x, atI [V.int a, V.int b] (if c then 1 else 0) = some (.int x) ∧ (x = a ∨ x = b) := by
  by_cases h : c
  · rw [if_pos h]; exact ⟨b, atI_nat (j := 1) rfl, .inr rfl⟩
  · rw [if_neg h]; exact ⟨a, atI_nat (j := 0) rfl, .inl rfl⟩
/-- a bar is told -/
def Told (H : Hp) (k2 : List (Key × V)) (y : Str) : Prop := ∃ tp zs x, valV k2 (Sum.inr y) = some (.ref tp) ∧ H tp = some (.tup zs) ∧ zs[1]? = some (.int x)
theorem Told.kt {ly : Addr} {H H' : Hp} {k2 : List (Key × V)} {y : Str} (h : Told H k2 y) (k : Kt ly H H') : Told H' k2 y := let ⟨tp, zs, x, a, b, c⟩ := h; ⟨tp, zs, x, a, k.1 _ _ b, c⟩
theorem Told.put {H : Hp} {k2 : List (Key × V)} {y z : Str} {p : Addr} {zs : List V} {x : Int} (h : y ≠ z → Told H k2 y) (hp : H p = some (.tup zs)) (hx : zs[1]? = some (.int x)) : Told H (putK k2 (Sum.inr z) (.ref p)) y := by
  by_cases e : y = z
  · subst e; exact ⟨p, zs, x, by rw [valV_put, if_pos rfl], hp, hx⟩
  · obtain ⟨tp, zs, x, a, b, c⟩ := h e
    exact ⟨tp, zs, x, by rw [valV_put, if_neg (fun q => e (Sum.inr.inj q))]; exact a, b, c⟩
theorem str_nth {ys : List Str} {i : Nat} {x : V} (hx : (ys.map V.str)[i]? = some x) : ∃ y, ys[i]? = some y ∧ x = .str y := by
  rw [List.getElem?_map] at hx
  cases q : ys[i]? with
  | none => rw [q] at hx; cases hx
  | some y => rw [q] at hx; exact ⟨y, rfl, (Option.some.inj hx).symm⟩
/-! ### how long a text is -/
structure Sml (d : PyData) (n B : Nat) : Prop where
  sh : d.showable = true
  dp : d.depth ≤ n
  ln : d.shown.length ≤ B
theorem len_app (x y : Str) : (x ++ y).length = x.length + y.length := by
  show (x.cps ++ y.cps).size = _
  rw [Array.size_append]; rfl
theorem txtF_len : ∀ (ts : List Str) (i : Nat) (acc : Str) (B : Nat), (∀ t ∈ ts, t.length ≤ B) → (textFrom i acc ts).length ≤ acc.length + ts.length * (B + 2)
  | [], i, acc, B, _ => by unfold textFrom; simp
  | t :: ts, i, acc, B, h => by
    have ht := h t List.mem_cons_self
    have e : (", " : Str).length = 2 := rfl
    unfold textFrom
    refine Nat.le_trans (txtF_len ts _ _ B fun u hu => h u (List.mem_cons_of_mem _ hu)) ?_
    rw [List.length_cons, Nat.succ_mul]
    split
    · rw [len_app, len_app, e]; omega
    · rw [len_app, len_app, show (Str.ofString "").length = 0 from rfl]; omega
theorem shownAll_le {B : Nat} : ∀ (ds : List PyData), (∀ d ∈ ds, d.shown.length ≤ B) → ∀ t ∈ PyData.shownAll ds, t.length ≤ B
  | [], _, t, ht => by simp [PyData.shownAll] at ht
  | d :: ds, h, t, ht => by
    rw [PyData.shownAll] at ht
    rcases List.mem_cons.mp ht with e | ht
    · rw [e]; exact h d List.mem_cons_self
    · exact shownAll_le ds (fun u hu => h u (List.mem_cons_of_mem _ hu)) t ht
theorem shownAll_len : ∀ ds : List PyData, (PyData.shownAll ds).length = ds.length
  | [] => rfl
  | d :: ds => by rw [PyData.shownAll, List.length_cons, List.length_cons, shownAll_len ds]
theorem showAll_of : ∀ ds : List PyData, (∀ d ∈ ds, d.showable = true) → PyData.showableAll ds = true
  | [], _ => by rw [PyData.showableAll]
  | d :: ds, h => by rw [PyData.showableAll, h d List.mem_cons_self, showAll_of ds fun u hu => h u (List.mem_cons_of_mem _ hu)]; rfl
theorem depthAll_of {n : Nat} : ∀ ds : List PyData, (∀ d ∈ ds, d.depth ≤ n) → PyData.depthAll ds ≤ n
  | [], _ => by rw [PyData.depthAll]; omega
  | d :: ds, h => by
    have a := h d List.mem_cons_self
    have b := depthAll_of ds fun u hu => h u (List.mem_cons_of_mem _ hu)
    rw [PyData.depthAll]; omega
theorem join_le : ∀ (ts : List Str) (B : Nat), (∀ t ∈ ts, t.length ≤ B) → (PySem.Str.join ", " ts).length ≤ ts.length * (B + 2)
  | [], B, _ => by show (0 : Nat) ≤ _; omega
  | [x], B, h => by have := h x List.mem_cons_self; show x.length ≤ 1 * (B + 2); omega
  | x :: y :: r, B, h => by
    have a := h x List.mem_cons_self
    have b := join_le (y :: r) B fun u hu => h u (List.mem_cons_of_mem _ hu)
    have e : (", " : Str).length = 2 := rfl
    show (x ++ ", " ++ PySem.Str.join ", " (y :: r)).length ≤ _
    rw [len_app, len_app, e, List.length_cons, Nat.succ_mul]; omega
theorem sml_lst {ds : List PyData} {n m B : Nat} (h : ∀ d ∈ ds, Sml d n B) (hl : ds.length ≤ m) : Sml (.list ds) (n + 1) (2 + m * (B + 2)) := by
  refine ⟨by rw [PyData.showable]; exact showAll_of ds fun d hd => (h d hd).sh, by rw [PyData.depth]; have := depthAll_of ds fun d hd => (h d hd).dp; omega, ?_⟩
  rw [PyData.shown]
  unfold listText
  have a := txtF_len (PyData.shownAll ds) 0 "[" B (shownAll_le ds fun d hd => (h d hd).ln)
  rw [shownAll_len] at a
  have e1 : ("[" : Str).length = 1 := rfl
  have e2 : ("]" : Str).length = 1 := rfl
  have c : ds.length * (B + 2) ≤ m * (B + 2) := Nat.mul_le_mul_right _ hl
  rw [len_app, e2]; omega
theorem sml_tup {ds : List PyData} {n m B : Nat} (h : ∀ d ∈ ds, Sml d n B) (hl : ds.length ≤ m) : Sml (.tuple ds) (n + 1) (3 + m * (B + 2)) := by
  refine ⟨by rw [PyData.showable]; exact showAll_of ds fun d hd => (h d hd).sh, by rw [PyData.depth]; have := depthAll_of ds fun d hd => (h d hd).dp; omega, ?_⟩
  rw [PyData.shown]
  unfold tupleText
  have a := join_le (PyData.shownAll ds) B (shownAll_le ds fun d hd => (h d hd).ln)
  rw [shownAll_len] at a
  have e1 : ("(" : Str).length = 1 := rfl
  have c : ds.length * (B + 2) ≤ m * (B + 2) := Nat.mul_le_mul_right _ hl
  have e2 : (Str.ofString (if (PyData.shownAll ds).length == 1 then ",)" else ")")).length ≤ 2 := by
    split
    · exact Nat.le_refl 2
    · exact Nat.le_succ 1
  rw [len_app, len_app, e1]; omega
theorem Sml.mono {d : PyData} {n m B C : Nat} (h : Sml d n B) (hn : n ≤ m) (hb : B ≤ C) : Sml d m C := ⟨h.sh, Nat.le_trans h.dp hn, Nat.le_trans h.ln hb⟩
theorem sml_str {x : Str} {k : Nat} (h : NmOk k x) : Sml (.str x) 0 (10 * k + 2) := by
  refine ⟨by rw [PyData.showable], by rw [PyData.depth]; omega, ?_⟩
  rw [PyData.shown]
  have := StrLaws.reprText_len x fun c hc => Nat.lt_trans (h.2 c hc) (by decide)
  have := h.1
  omega
theorem sml_int {i : Int} (h : i = 1 ∨ i = -1) : Sml (.int i) 0 3 := by
  refine ⟨?_, by rw [PyData.depth]; omega, ?_⟩
  · rw [PyData.showable]; rcases h with rfl | rfl <;> decide +kernel
  · rw [PyData.shown]; rcases h with rfl | rfl <;> decide +kernel
/-! ### deeds -/
inductive Deed where
  | turn (ms : List (Str × Int))
  | two (w b : Str)
  | three (w b c : Str)
def six : List Str := ["brake", "loose", "hang", "strike", "put", "lift"]
def other (w : Str) : Str := if w = "brake" then "loose" else if w = "loose" then "brake" else if w = "hang" then "strike" else if w = "strike" then "hang" else if w = "put" then "lift" else "put"
def mvs (ms : List (Str × Int)) : List PyData := ms.map fun m => .tuple [.str m.1, .int m.2]
def Deed.py : Deed → PyData
  | .turn ms => .tuple [.str "turn", .list (mvs ms)]
  | .two w b => .tuple [.str w, .str b]
  | .three w b c => .tuple [.str w, .str b, .str c]
def neg (ms : List (Str × Int)) : List (Str × Int) := ms.map fun m => (m.1, -m.2)
def ctr : Deed → Deed
  | .turn ms => .turn (neg ms)
  | .two w b => .two (other w) b
  | .three w b c => .three (other w) b c
def Deed.Ok : Deed → Prop
  | .turn ms => ms.length ≤ 12 ∧ ∀ m ∈ ms, NmOk 21 m.1 ∧ (m.2 = 1 ∨ m.2 = -1)
  | .two w b => w ∈ six ∧ NmOk 21 b
  | .three w b c => w ∈ six ∧ NmOk 21 b ∧ NmOk 21 c
theorem six_cases {w : Str} (h : w ∈ six) : w = "brake" ∨ w = "loose" ∨ w = "hang" ∨ w = "strike" ∨ w = "put" ∨ w = "lift" := by simpa [six] using h
theorem other_other {w : Str} (h : w ∈ six) : other (other w) = w := by
  rcases six_cases h with rfl | rfl | rfl | rfl | rfl | rfl <;> decide +kernel
theorem other_in {w : Str} (h : w ∈ six) : other w ∈ six := by
  rcases six_cases h with rfl | rfl | rfl | rfl | rfl | rfl <;> decide +kernel
theorem six_ok {w : Str} (h : w ∈ six) : NmOk 21 w := by
  rcases six_cases h with rfl | rfl | rfl | rfl | rfl | rfl <;> exact ⟨by decide +kernel, by decide +kernel⟩
theorem six_turn {w : Str} (h : w ∈ six) : w ≠ "turn" := by
  rcases six_cases h with rfl | rfl | rfl | rfl | rfl | rfl <;> decide +kernel
theorem neg_neg' (ms : List (Str × Int)) : neg (neg ms) = ms := by
  unfold neg
  rw [List.map_map]
  conv => rhs; rw [← List.map_id ms]
  refine List.map_congr_left fun m _ => ?_
  show (m.1, - -m.2) = m
  rw [Int.neg_neg]
theorem ctr_ctr {D : Deed} (h : D.Ok) : ctr (ctr D) = D := by
  cases D with
  | turn ms => show Deed.turn (neg (neg ms)) = _; rw [neg_neg']
  | two w b => show Deed.two (other (other w)) b = _; rw [other_other h.1]
  | three w b c => show Deed.three (other (other w)) b c = _; rw [other_other h.1]
theorem ctr_ok {D : Deed} (h : D.Ok) : (ctr D).Ok := by
  cases D with
  | turn ms =>
    refine ⟨by show (neg ms).length ≤ 12; unfold neg; rw [List.length_map]; exact h.1, fun m hm => ?_⟩
    obtain ⟨x, hx, rfl⟩ := List.mem_map.mp (show m ∈ ms.map _ from hm)
    have := h.2 x hx
    exact ⟨this.1, by show -x.2 = 1 ∨ -x.2 = -1; omega⟩
  | two w b => exact ⟨other_in h.1, h.2⟩
  | three w b c => exact ⟨other_in h.1, h.2⟩
theorem deed_sml {D : Deed} (h : D.Ok) : Sml D.py 3 10403 := by
  cases D with
  | turn ms =>
    have hm : ∀ d ∈ mvs ms, Sml d 1 431 := fun d hd => by
      obtain ⟨m, hm, rfl⟩ := List.mem_map.mp (show d ∈ ms.map _ from hd)
      have z := h.2 m hm
      exact sml_tup (m := 2) (B := 212) (fun d hd => by
        rcases List.mem_cons.mp hd with rfl | hd
        · exact sml_str z.1
        · rw [List.mem_singleton.mp hd]; exact (sml_int z.2).mono (Nat.le_refl _) (by decide)) (Nat.le_refl _)
    have hl := sml_lst (m := 12) hm (by show (ms.map _).length ≤ 12; rw [List.length_map]; exact h.1)
    exact sml_tup (m := 2) (B := 5198) (n := 2) (fun d hd => by
      rcases List.mem_cons.mp hd with rfl | hd
      · exact (sml_str (k := 21) ⟨by decide +kernel, by decide +kernel⟩).mono (by decide) (by decide)
      · rw [List.mem_singleton.mp hd]; exact hl.mono (by decide) (by decide)) (Nat.le_refl _)
  | two w b =>
    exact (sml_tup (ds := [.str w, .str b]) (m := 2) (B := 212) (n := 0) (fun d hd => by
      rcases List.mem_cons.mp hd with rfl | hd
      · exact sml_str (six_ok h.1)
      · rw [List.mem_singleton.mp hd]; exact sml_str h.2) (Nat.le_refl _)).mono (by decide) (by decide)
  | three w b c =>
    exact (sml_tup (ds := [.str w, .str b, .str c]) (m := 3) (B := 212) (n := 0) (fun d hd => by
      rcases List.mem_cons.mp hd with rfl | hd
      · exact sml_str (six_ok h.1)
      · rcases List.mem_cons.mp hd with rfl | hd
        · exact sml_str h.2.1
        · rw [List.mem_singleton.mp hd]; exact sml_str h.2.2) (Nat.le_refl _)).mono (by decide) (by decide)
/-! ### deeds in the heap -/
inductive All2 {α β : Type} (R : α → β → Prop) : List α → List β → Prop
  | nil : All2 R [] []
  | cons {x : α} {y : β} {xs : List α} {ys : List β} : R x y → All2 R xs ys → All2 R (x :: xs) (y :: ys)
section
variable {α β : Type} {R S : α → β → Prop}
theorem All2.imp (f : ∀ x y, R x y → S x y) : ∀ {xs : List α} {ys : List β}, All2 R xs ys → All2 S xs ys
  | _, _, .nil => .nil
  | _, _, .cons h t => .cons (f _ _ h) (t.imp f)
theorem All2.app : ∀ {xs us : List α} {ys vs : List β}, All2 R xs ys → All2 R us vs → All2 R (xs ++ us) (ys ++ vs)
  | _, _, _, _, .nil, k => k
  | _, _, _, _, .cons h t, k => .cons h (t.app k)
theorem All2.one {x : α} {y : β} (h : R x y) : All2 R [x] [y] := .cons h .nil
theorem All2.rev : ∀ {xs : List α} {ys : List β}, All2 R xs ys → All2 R xs.reverse ys.reverse
  | _, _, .nil => .nil
  | _, _, .cons h t => by rw [List.reverse_cons, List.reverse_cons]; exact t.rev.app (.one h)
theorem All2.take : ∀ (n : Nat) {xs : List α} {ys : List β}, All2 R xs ys → All2 R (xs.take n) (ys.take n)
  | 0, _, _, _ => by rw [List.take_zero, List.take_zero]; exact .nil
  | _ + 1, _, _, .nil => .nil
  | n + 1, _, _, .cons h t => .cons h (t.take n)
theorem All2.len : ∀ {xs : List α} {ys : List β}, All2 R xs ys → xs.length = ys.length
  | _, _, .nil => rfl
  | _, _, .cons _ t => by rw [List.length_cons, List.length_cons, t.len]
theorem All2.get : ∀ {xs : List α} {ys : List β} {i : Nat} {x : α}, All2 R xs ys → xs[i]? = some x → ∃ y, ys[i]? = some y ∧ R x y
  | _, _, i, _, .nil, h => by simp at h
  | _, _, 0, _, .cons r _, h => by
    have e := Option.some.inj (by simpa using h)
    subst e; exact ⟨_, rfl, r⟩
  | _, _, i + 1, _, .cons _ t, h => by
    obtain ⟨y, e, r⟩ := t.get (i := i) (by simpa using h)
    exact ⟨y, by simpa using e, r⟩
theorem All2.mem : ∀ {xs : List α} {ys : List β} {x : α}, All2 R xs ys → x ∈ xs → ∃ y ∈ ys, R x y
  | _, _, _, .nil, h => by cases h
  | _, _, _, .cons r t, h => by
    rcases List.mem_cons.mp h with rfl | h
    · exact ⟨_, List.mem_cons_self, r⟩
    · obtain ⟨y, e, r⟩ := t.mem h
      exact ⟨y, List.mem_cons_of_mem _ e, r⟩
end
def MvAt (H : Hp) (v : V) (m : Str × Int) : Prop := ∃ p, v = .ref p ∧ H p = some (.tup [.str m.1, .int m.2])
/-- the deed D at v; its list, if it has one, was not there in H0 -/
def DeedAt (H0 H : Hp) (v : V) : Deed → Prop
  | .turn ms => ∃ a l xs, v = .ref a ∧ H a = some (.tup [.str "turn", .ref l]) ∧ H l = some (.lst xs) ∧ H0 l = none ∧ All2 (MvAt H) xs ms
  | .two w b => ∃ a, v = .ref a ∧ H a = some (.tup [.str w, .str b])
  | .three w b c => ∃ a, v = .ref a ∧ H a = some (.tup [.str w, .str b, .str c])
/-- tuples stay, and lists but those at es -/
def KtS (es : List Addr) (H H' : Hp) : Prop := (∀ b xs, H b = some (.tup xs) → H' b = some (.tup xs)) ∧ ∀ b xs, H b = some (.lst xs) → b ∉ es → H' b = some (.lst xs)
theorem KtS.of {es : List Addr} {H H' : Hp} (s : Same H H') : KtS es H H' := ⟨fun b xs e => s _ _ e, fun b xs e _ => s _ _ e⟩
theorem KtS.ofE {es ws : List Addr} {H H' : Hp} (s : SameE ws H H') (hd : ∀ b ∈ ws, Dky (H b)) : KtS es H H' := ⟨fun b xs e => s.tup hd e, fun b xs e _ => s.lst hd e⟩
theorem KtS.trans {es : List Addr} {H H1 H2 : Hp} (x : KtS es H H1) (y : KtS es H1 H2) : KtS es H H2 := ⟨fun b xs e => y.1 b xs (x.1 b xs e), fun b xs e n => y.2 b xs (x.2 b xs e n) n⟩
theorem KtS.put {es : List Addr} {H : Hp} {r : Addr} {ys : List V} (hr : H r = some (.lst ys)) (hm : r ∈ es) (o : HO) : KtS es H (upd H r o) := ⟨fun b xs e => by rw [upd_ne (ne_of e hr (by intro z; cases z))]; exact e, fun b xs e n => by rw [upd_ne (fun z => n (by rw [z]; exact hm))]; exact e⟩
theorem DeedAt.kt {es : List Addr} {H0 H H' : Hp} {v : V} {D : Deed} (h : DeedAt H0 H v D) (k : KtS es H H') (he : ∀ e ∈ es, H0 e ≠ none) : DeedAt H0 H' v D := by
  cases D with
  | turn ms =>
    obtain ⟨a, l, xs, h1, h2, h3, h4, h5⟩ := h
    exact ⟨a, l, xs, h1, k.1 _ _ h2, k.2 _ _ h3 (fun z => he l z h4), h4, h5.imp fun x y ⟨p, e, q⟩ => ⟨p, e, k.1 _ _ q⟩⟩
  | two w b => obtain ⟨a, h1, h2⟩ := h; exact ⟨a, h1, k.1 _ _ h2⟩
  | three w b c => obtain ⟨a, h1, h2⟩ := h; exact ⟨a, h1, k.1 _ _ h2⟩
theorem DeedAt.same {H0 H H' : Hp} {v : V} {D : Deed} (h : DeedAt H0 H v D) (s : Same H H') : DeedAt H0 H' v D := h.kt (es := []) (KtS.of s) (fun e z => by cases z)
theorem DeedAt.weak {H0 H1 H : Hp} {v : V} {D : Deed} (h : DeedAt H1 H v D) (s : ∀ b, H1 b = none → H0 b = none) : DeedAt H0 H v D := by
  cases D with
  | turn ms => obtain ⟨a, l, xs, h1, h2, h3, h4, h5⟩ := h; exact ⟨a, l, xs, h1, h2, h3, s _ h4, h5⟩
  | two w b => exact h
  | three w b c => exact h
theorem mvs_rep {H : Hp} : ∀ {xs : List V} {ms : List (Str × Int)}, All2 (MvAt H) xs ms → RepL H xs (mvs ms)
  | _, _, .nil => .nil
  | _, _, .cons ⟨p, e, h⟩ t => by subst e; exact .cons (.tup h (.cons (.str _) (.cons (.int _) .nil))) (mvs_rep t)
theorem DeedAt.rep {H0 H : Hp} {v : V} {D : Deed} (h : DeedAt H0 H v D) : Rep H v D.py := by
  cases D with
  | turn ms => obtain ⟨a, l, xs, rfl, h2, h3, h4, h5⟩ := h; exact .tup h2 (.cons (.str _) (.cons (.lst h3 (mvs_rep h5)) .nil))
  | two w b => obtain ⟨a, rfl, h2⟩ := h; exact .tup h2 (.cons (.str _) (.cons (.str _) .nil))
  | three w b c => obtain ⟨a, rfl, h2⟩ := h; exact .tup h2 (.cons (.str _) (.cons (.str _) (.cons (.str _) .nil)))
theorem deeds_rep {H0 H : Hp} : ∀ {vs : List V} {Ds : List Deed}, All2 (DeedAt H0 H) vs Ds → RepL H vs (Ds.map Deed.py)
  | _, _, .nil => .nil
  | _, _, .cons h t => .cons h.rep (deeds_rep t)
theorem deeds_sml {Ds : List Deed} (h : ∀ D ∈ Ds, D.Ok) (hl : Ds.length ≤ 60) : Sml (.list (Ds.map Deed.py)) 4 624302 := sml_lst (m := 60) (B := 10403) (fun d hd => by
  obtain ⟨D, hD, rfl⟩ := List.mem_map.mp hd
  exact deed_sml (h D hD)) (by rw [List.length_map]; exact hl)
theorem DeedAt.ref {H0 H : Hp} {v : V} {D : Deed} (h : DeedAt H0 H v D) : ∃ a, v = .ref a := by
  cases D with
  | turn ms => obtain ⟨a, l, xs, h1, _⟩ := h; exact ⟨a, h1⟩
  | two w b => obtain ⟨a, h1, _⟩ := h; exact ⟨a, h1⟩
  | three w b c => obtain ⟨a, h1, _⟩ := h; exact ⟨a, h1⟩
def NoH : Hp := fun _ => none
theorem name_at {xs : List Str} {n : Nat} {k : Int} (h0 : 0 ≤ k) (h1 : k < xs.length) (h : ∀ x ∈ xs, NmOk n x) : ∃ x, atI (xs.map V.str) k = some (.str x) ∧ x ∈ xs ∧ NmOk n x := by
  refine ⟨xs[k.toNat]'(by omega), by rw [atI_map, atI_in h0 h1]; rfl, List.getElem_mem _, h _ (List.getElem_mem _)⟩
theorem zz_ok {n : Nat} (h : 2 ≤ n) : NmOk n "zz" := NmOk.mono (n := 2) ⟨by decide +kernel, by decide +kernel⟩ h
theorem q_ok {x : Str} (h : NmOk 20 x) : NmOk 21 (x ++ "q") := app_ok (m := 1) (y := "q") h ⟨by decide +kernel, by decide +kernel⟩
theorem HouseOk.keep {H H' : Hp} {h w : Addr} {n : Int} {bars pieces : List Str} (x : HouseOk H h bars pieces) (s : SameE [w] H H') (hw : Wl H w n) (hn : h ≠ w) : HouseOk H' h bars pieces := by
  obtain ⟨kvs, b, p, e1, e2, e3, e4, e5, l⟩ := x
  exact ⟨kvs, b, p, s _ _ e1 (by simpa using hn), e2, e3, s.lst hw.dky e4, s.lst hw.dky e5, l⟩
theorem HouseOk.new {H : Hp} {h : Addr} {bars pieces : List Str} (x : HouseOk H h bars pieces) {p : Addr} (hp : H p = none) (o : HO) : HouseOk (upd H p o) h bars pieces := by
  obtain ⟨kvs, b, q, e1, e2, e3, e4, e5, l⟩ := x
  exact ⟨kvs, b, q, same_new hp _ _ _ e1, e2, e3, same_new hp _ _ _ e4, same_new hp _ _ _ e5, l⟩
theorem pick {a b : Addr} {H : Hp} {n k : Int} {xs : List Str} {m : Nat} {Q : VK} (hw : Wl H a n) (hn : n ≤ 990000) (e : H b = some (.lst (xs.map V.str))) (hk : k = (xs.length : Int)) (h0 : 0 < xs.length) (h1 : xs.length ≤ 100) (ok : ∀ x ∈ xs, NmOk m x)
    (q : ∀ x H', NmOk m x → x ∈ xs → SameE [a] H H' → Wl H' a (n + 1) → Q (.str x) H') : spDraw [.ref a, .int k] H (fun y H2 => ∃ ys, seqO (H2 b) = some ys ∧ ∃ x, y = .int x ∧ ∃ x_1, atI ys x = some x_1 ∧ Q x_1 H2) E0 := by
  refine ⟨a, k, n, rfl, hw, by omega, by omega, by unfold big60; omega, fun v H1 v0 v1 s1 w1 => ?_⟩
  have e1 := s1.lst hw.dky e
  obtain ⟨x, ex, hx, ox⟩ := name_at v0 (by omega) ok
  exact ⟨_, by rw [e1]; rfl, v, rfl, _, ex, q x H1 ox hx s1 w1⟩
theorem two_strs {xs : List Str} {x y : Str} : xs.map V.str ++ [V.str x, V.str y] = (xs ++ [x, y]).map V.str := by rw [List.map_append]; rfl
theorem ok_two {xs : List Str} {n : Nat} {x y : Str} (h : ∀ z ∈ xs, NmOk n z) (hx : NmOk n x) (hy : NmOk n y) : ∀ z ∈ xs ++ [x, y], NmOk n z := fun z hz => by
  rcases List.mem_append.mp hz with hz | hz
  · exact h z hz
  · rcases List.mem_cons.mp hz with rfl | hz
    · exact hx
    · rw [List.mem_singleton.mp hz]; exact hy
theorem ok_one {xs : List Str} {n : Nat} {x : Str} (h : ∀ z ∈ xs, NmOk n z) (hx : NmOk n x) : ∀ z ∈ xs ++ [x], NmOk n z := fun z hz => by
  rcases List.mem_append.mp hz with hz | hz
  · exact h z hz
  · rw [List.mem_singleton.mp hz]; exact hx
def MvOk (m : Str × Int) : Prop := NmOk 21 m.1 ∧ (m.2 = 1 ∨ m.2 = -1)
structure MS (a h b r : Addr) (kvs : List (Key × V)) (bars : List Str) (H H' : Hp) (n : Int) (xs : List V) (ms : List (Str × Int)) : Prop where
  s : SameE [a] H H'
  w : Wl H' a n
  kh : H' h = some (.dK kvs)
  kb : H' b = some (.lst (bars.map V.str))
  kr : H' r = some (.lst xs)
  mv : All2 (MvAt H') xs ms
  ok : ∀ m ∈ ms, MvOk m
section
variable {a h b r : Addr} {kvs : List (Key × V)} {bars : List Str} {H H' H2 : Hp} {n m : Int} {xs : List V} {ms : List (Str × Int)}
theorem MvAt.tup {v : V} {x : Str × Int} (h : MvAt H v x) (k : ∀ b xs, H b = some (.tup xs) → H' b = some (.tup xs)) : MvAt H' v x := let ⟨p, e, q⟩ := h; ⟨p, e, k _ _ q⟩
theorem MS.mono (x : MS a h b r kvs bars H H' n xs ms) (hm : n ≤ m) : MS a h b r kvs bars H H' m xs ms := { x with w := x.w.mono hm }
theorem MS.draw (x : MS a h b r kvs bars H H' n xs ms) (s : SameE [a] H' H2) (w : Wl H2 a m) (ha : h ≠ a) : MS a h b r kvs bars H H2 m xs ms :=
  { x with s := x.s.trans s, w := w, kh := s _ _ x.kh (by simpa using ha), kb := s.lst x.w.dky x.kb, kr := s.lst x.w.dky x.kr, mv := x.mv.imp fun _ _ z => z.tup fun b xs e => s.tup x.w.dky e }
theorem MS.new (x : MS a h b r kvs bars H H' n xs ms) {p : Addr} (hp : H' p = none) (o : HO) : MS a h b r kvs bars H (upd H' p o) n xs ms :=
  { x with s := x.s.new hp o, w := x.w.new hp o, kh := same_new hp o _ _ x.kh, kb := same_new hp o _ _ x.kb, kr := same_new hp o _ _ x.kr, mv := x.mv.imp fun _ _ z => z.tup fun b xs e => same_new hp o _ _ e }
theorem MS.put (x : MS a h b r kvs bars H H' n xs ms) (hr : H r = none) (hb : b ≠ r) {ys : List V} {ks : List (Str × Int)} (mv : All2 (MvAt H') ys ks) (ok : ∀ m ∈ ks, MvOk m) : MS a h b r kvs bars H (upd H' r (.lst ys)) n ys ks :=
  { x with s := x.s.put hr _, w := x.w.put (x.w.ne x.kr) _, kh := by rw [upd_ne (ne_of x.kh x.kr (by intro z; cases z))]; exact x.kh, kb := by rw [upd_ne hb]; exact x.kb, kr := upd_same,
           mv := mv.imp fun _ _ z => z.tup fun b xs e => (by rw [upd_ne (ne_of e x.kr (by intro z; cases z))]; exact e), ok := ok }
end
theorem All2.drop {α β : Type} {R : α → β → Prop} : ∀ (n : Nat) {xs : List α} {ys : List β}, All2 R xs ys → All2 R (xs.drop n) (ys.drop n)
  | 0, _, _, h => h
  | _ + 1, _, _, .nil => .nil
  | n + 1, _, _, .cons _ t => t.drop n
theorem All2.ins {β : Type} {R : V → β → Prop} {xs : List V} {ys : List β} (h : All2 R xs ys) (k : Int) {v : V} {y : β} (r : R v y) : ∃ ks, All2 R (insV xs k v) ks ∧ ks.length = ys.length + 1 ∧ ∀ m ∈ ks, m = y ∨ m ∈ ys := by
  unfold insV
  generalize (if k < 0 then (k + (xs.length : Int)).toNat else min k.toNat xs.length) = j
  refine ⟨ys.take j ++ y :: ys.drop j, (h.take j).app (.cons r (h.drop j)), ?_, fun m hm => ?_⟩
  · rw [List.length_append, List.length_cons, List.length_take, List.length_drop]; omega
  · rcases List.mem_append.mp hm with hm | hm
    · exact .inr (List.mem_of_mem_take hm)
    · rcases List.mem_cons.mp hm with rfl | hm
      · exact .inl rfl
      · exact .inr (List.mem_of_mem_drop hm)
theorem strs_flat (xs : List Str) : (xs.map V.str).all flatV = true := List.all_eq_true.mpr fun v hv => by obtain ⟨_, _, rfl⟩ := List.mem_map.mp hv; rfl
theorem cut1 {z : V} {ys : List V} : cutV (z :: ys) (some 1) none = ys := by
  unfold cutV
  rw [HT.sIx_none, show (1 : Int) = ((1 : Nat) : Int) from rfl, HT.sIx_nat, List.length_cons, show min 1 (ys.length + 1) = 1 by omega]
  show ys.take _ = ys
  exact List.take_of_length_le (by omega)
theorem ctr_tail {H : Hp} {a : Addr} {x w' y : V} {ys : List V} {Q : VK} (h : H a = some (.tup (w' :: y :: ys))) (hl : ys.length ≤ 5) (q : ∀ p H', Same H H' → H' p = some (.tup (x :: y :: ys)) → Q (.ref p) H') : ∀ p, H p = none →
    ∃ xs, upd H p (.tup [x]) a = some (.tup xs) ∧ ¬(HT.sIx xs.length 0 (some 1) = 0 ∧ HT.sIx xs.length xs.length none = xs.length) ∧ ∀ p1, upd H p (.tup [x]) p1 = none →
      [x] ≠ [] ∧ cutV xs (some 1) none ≠ [] ∧ 1 + (cutV xs (some 1) none).length ≤ 16777216 ∧ ∀ p2, upd (upd H p (.tup [x])) p1 (.tup (cutV xs (some 1) none)) p2 = none →
        Q (.ref p2) (upd (upd (upd H p (.tup [x])) p1 (.tup (cutV xs (some 1) none))) p2 (.tup (x :: cutV xs (some 1) none))) := by
  intro p hp
  refine ⟨_, same_new hp _ _ _ h, ?_, ?_⟩
  · rintro ⟨z, _⟩
    rw [show (1 : Int) = ((1 : Nat) : Int) from rfl, HT.sIx_nat, List.length_cons] at z
    omega
  · intro p1 hp1
    rw [cut1]
    refine ⟨by simp, by simp, by rw [List.length_cons]; omega, fun p2 hp2 => q p2 _ ?_ upd_same⟩
    exact ((same_new hp _).trans (same_new hp1 _)).trans (same_new hp2 _)
def ctrL : List (Key × V) := [(Sum.inr "brake", V.str "loose"), (Sum.inr "loose", V.str "brake"), (Sum.inr "hang", V.str "strike"), (Sum.inr "strike", V.str "hang"), (Sum.inr "put", V.str "lift"), (Sum.inr "lift", V.str "put")]
theorem ctr_val {w : Str} (h : w ∈ six) : valV ctrL (Sum.inr w) = some (.str (other w)) := by
  rcases six_cases h with rfl | rfl | rfl | rfl | rfl | rfl <;> with_unfolding_all rfl
theorem six_index {w : Str} (h : w ∈ six) : ∃ j : Nat, six[j]? = some w ∧ (∀ i, i < j → six[i]? ≠ some w) ∧ j < 6 ∧ atI (six.map V.str) ((j : Int) + 1 - 2 * ((j : Int) % 2)) = some (.str (other w)) := by
  have t : ∀ j, j < 6 → ∀ i, i < j → ∀ w, six[j]? = some w → six[i]? ≠ some w := by
    intro j hj i hi w e
    have : ∀ j, j < 6 → ∀ i, i < j → six[i]? ≠ six[j]? := by decide +kernel
    rw [← e]; exact this j hj i hi
  rcases six_cases h with rfl | rfl | rfl | rfl | rfl | rfl
  · exact ⟨0, rfl, fun i hi => by omega, by decide, atI_nat (j := 1) rfl⟩
  · exact ⟨1, rfl, fun i hi => t 1 (by decide) i hi _ rfl, by decide, atI_nat (j := 0) rfl⟩
  · exact ⟨2, rfl, fun i hi => t 2 (by decide) i hi _ rfl, by decide, atI_nat (j := 3) rfl⟩
  · exact ⟨3, rfl, fun i hi => t 3 (by decide) i hi _ rfl, by decide, atI_nat (j := 2) rfl⟩
  · exact ⟨4, rfl, fun i hi => t 4 (by decide) i hi _ rfl, by decide, atI_nat (j := 5) rfl⟩
  · exact ⟨5, rfl, fun i hi => t 5 (by decide) i hi _ rfl, by decide, atI_nat (j := 4) rfl⟩
theorem neg_take {ms : List (Str × Int)} {i : Nat} {m : Str × Int} (e : ms[i]? = some m) : neg (ms.take (i + 1)) = neg (ms.take i) ++ [(m.1, -m.2)] := by
  unfold neg
  rw [List.take_add_one, e, List.map_append]; rfl
theorem neg_comp {K : PySem.W.Frag} {σ : St} {H : Hp} {l : Addr} {xs : List V} {ms : List (Str × Int)} {Q : VK} (h3 : H l = some (.lst xs)) (h5 : All2 (MvAt H) xs ms) (hl : ms.length ≤ 12) (q : ∀ p ys H1, Same H H1 → H1 p = none → All2 (MvAt H1) ys (neg ms) → Q (.ref p) (upd H1 p (.lst ys))) :
    tCompK 2 [] (gTupF 2 (gCons (gName 0) (gCons (gName 1) gNil))) tTrue (tTup (tCons (tVar 0) (tCons (tUn (rU fun i => V.int (-i)) (tVar 1)) tNil))) σ Q (Itl K l) H := by
  have hlen := h5.len
  refine comp_list (xs := xs) (fun i ys H' => Same H H' ∧ All2 (MvAt H') ys (neg (ms.take i))) ⟨Same.refl _, by rw [List.take_zero]; exact .nil⟩ (fun i ys H' hi ⟨s, al⟩ => ⟨s _ _ h3, by rw [al.len]; unfold neg; rw [List.length_map, List.length_take]; omega⟩) (by omega) ?_ ?_
  · rintro i x ys H' M hx ⟨sm, al⟩ nxt
    obtain ⟨m, em, p, rfl, ep⟩ := h5.get hx
    have ep' := sm _ _ ep
    (first | ((try clear hN); refine seq_hide fun N hN => ?_) | skip); (try simp (config := { contextual := true, maxSteps := 1000000 }) only [rdH1, uRepr_0, HO.dK.injEq, rdD1, rdB1, rdA1, rdA2, rdA3, rdA4, rdA5, rdS1, rdS2, reduceIte, Nat.reduceSub, Nat.reduceAdd, String.reduceBEq, Int.reducePow, Int.reduceNeg, Int.reduceLT, Int.reduceLE, Int.reduceToNat, Int.reduceMul, Int.reduceAdd, Int.reduceSub, reduceCtorEq, Nat.reduceLeDiff, Nat.reducePow, Nat.reduceLT, Int.reduceAbs, ep'])
    intro p2 hp2
    exact nxt _ _ ⟨sm.trans (same_new hp2 _), by rw [neg_take em]; exact (al.imp fun _ _ z => z.tup fun b xs e => same_new hp2 _ _ _ e).app (.one ⟨p2, rfl, upd_same⟩)⟩
  · rintro ys H' p ⟨sm, al⟩ hp
    refine q p ys H' sm hp ?_
    rw [List.take_of_length_le (by omega)] at al
    exact al
/-- what the law asks of a deed that it is told: its word, and its list where it has one -/
def TopAt (Hb H : Hp) (r : Addr) (u : V) : Prop := ∃ a w rest, u = .ref a ∧ H a = some (.tup (.str w :: rest)) ∧ (w = "turn" → ∃ l xs, rest = [.ref l] ∧ H l = some (.lst xs) ∧ Hb l = none ∧ l ≠ r)
theorem DeedAt.top {Hb H : Hp} {r : Addr} {u : V} {D : Deed} (h : DeedAt Hb H u D) (ok : D.Ok) (hr : H r = none) : TopAt Hb H r u := by
  cases D with
  | turn ms => obtain ⟨a, l, xs, h1, h2, h3, h4, h5⟩ := h; exact ⟨a, _, _, h1, h2, fun _ => ⟨l, xs, rfl, h3, h4, ne_of_none h3 hr⟩⟩
  | two w b => obtain ⟨a, h1, h2⟩ := h; exact ⟨a, _, _, h1, h2, fun e => absurd e (six_turn ok.1)⟩
  | three w b c => obtain ⟨a, h1, h2⟩ := h; exact ⟨a, _, _, h1, h2, fun e => absurd e (six_turn ok.1)⟩
theorem TopAt.same {Hb H H' : Hp} {r : Addr} {u : V} (h : TopAt Hb H r u) (s : Same H H') : TopAt Hb H' r u := by
  obtain ⟨a, w, rest, h1, h2, h3⟩ := h
  refine ⟨a, w, rest, h1, s _ _ h2, fun e => ?_⟩
  obtain ⟨l, xs, e1, e2, e3, e4⟩ := h3 e
  exact ⟨l, xs, e1, s _ _ e2, e3, e4⟩
theorem TopAt.clear {Hb H : Hp} {r l : Addr} {u : V} {xs : List V} (h : TopAt Hb H r u) (hl : H l = some (.lst xs)) : TopAt Hb (upd H l (.lst [])) r u := by
  obtain ⟨a, w, rest, h1, h2, h3⟩ := h
  refine ⟨a, w, rest, h1, by rw [upd_ne (ne_of h2 hl (by intro z; cases z))]; exact h2, fun e => ?_⟩
  obtain ⟨m, xs, e1, e2, e3, e4⟩ := h3 e
  by_cases q : m = l
  · subst q; exact ⟨m, [], e1, upd_same, e3, e4⟩
  · exact ⟨m, xs, e1, by rw [upd_ne q]; exact e2, e3, e4⟩
theorem TopAt.weak {Hb Hc H : Hp} {r : Addr} {u : V} (h : TopAt Hb H r u) (s : ∀ b, Hb b = none → Hc b = none) : TopAt Hc H r u := by
  obtain ⟨a, w, rest, h1, h2, h3⟩ := h
  refine ⟨a, w, rest, h1, h2, fun e => ?_⟩
  obtain ⟨l, xs, e1, e2, e3, e4⟩ := h3 e
  exact ⟨l, xs, e1, e2, s _ e3, e4⟩
/-! ### the law's first loop -/
def ways8 : List Str := ["turn", "hang", "strike", "put", "lift", "brake", "loose", "turn"]
def nI (c : Nat) : V := .int (c : Nat)
structure LC (h b p ww wl rd rc : Addr) (ps : List Addr) (HB : Hp) : Prop where
  nd : HB rd ≠ none
  nc : HB rc ≠ none
  dc : rd ≠ rc
  b : b ∉ [rd, rc]
  p : p ∉ [rd, rc]
  ww : ww ∉ [rd, rc]
  wl : wl ∉ [rd, rc]
  h : ∀ q ∈ ps, h ≠ q
structure LS (h b p ww wl rd rc : Addr) (kvs : List (Key × V)) (bars pieces : List Str) (ps : List Addr) (HB H : Hp) (n : Int) (vs : List V) (Ds : List Deed) (cs : List Nat) : Prop where
  dm : ∀ x, H x = none → HB x = none
  eh : H h = some (.dK kvs)
  eb : H b = some (.lst (bars.map V.str))
  ep : H p = some (.lst (pieces.map V.str))
  ew : H ww = some (.lst (ways8.map V.str))
  el : H wl = some (.lst (ps.map V.ref))
  wls : ∀ q ∈ ps, Wl H q n
  ed : H rd = some (.lst vs)
  ec : H rc = some (.lst (cs.map nI))
  al : All2 (DeedAt HB H) vs Ds
section
variable {h b p ww wl rd rc : Addr} {kvs : List (Key × V)} {bars pieces : List Str} {ps : List Addr} {HB H H' : Hp} {n m : Int} {vs : List V} {Ds : List Deed} {cs : List Nat}
theorem LC.es (c : LC h b p ww wl rd rc ps HB) : ∀ e ∈ [rd, rc], HB e ≠ none := fun e he => by
  rcases List.mem_cons.mp he with rfl | he
  · exact c.nd
  · rw [List.mem_singleton.mp he]; exact c.nc
theorem LS.kt (x : LS h b p ww wl rd rc kvs bars pieces ps HB H n vs Ds cs) (c : LC h b p ww wl rd rc ps HB) (k : KtS [rd, rc] H H') (dm : ∀ x, H' x = none → HB x = none) (eh : H' h = some (.dK kvs)) (wls : ∀ q ∈ ps, Wl H' q m) {us : List V} {ks : List Nat} {Es : List Deed} (ed : H' rd = some (.lst us)) (ec : H' rc = some (.lst (ks.map nI))) (al : All2 (DeedAt HB H') us Es) : LS h b p ww wl rd rc kvs bars pieces ps HB H' m us Es ks :=
  ⟨dm, eh, k.2 _ _ x.eb c.b, k.2 _ _ x.ep c.p, k.2 _ _ x.ew c.ww, k.2 _ _ x.el c.wl, wls, ed, ec, al⟩
theorem LS.draw (x : LS h b p ww wl rd rc kvs bars pieces ps HB H n vs Ds cs) (c : LC h b p ww wl rd rc ps HB) {q : Addr} (hq : q ∈ ps) (s : SameE [q] H H') (w : Wl H' q m) (hm : n ≤ m) : LS h b p ww wl rd rc kvs bars pieces ps HB H' m vs Ds cs := by
  have k : KtS [rd, rc] H H' := KtS.ofE s (x.wls q hq).dky
  refine x.kt c k (fun z hz => x.dm z (noneE s hz (w.notin hz))) (s _ _ x.eh (by simpa using c.h q hq)) (fun z hz => ?_) (s.lst (x.wls q hq).dky x.ed) (s.lst (x.wls q hq).dky x.ec) (x.al.imp fun _ _ d => d.kt k c.es)
  by_cases e : z = q
  · subst e; exact w
  · exact ((x.wls z hz).sameE s (by simpa using e)).mono hm
theorem LS.same (x : LS h b p ww wl rd rc kvs bars pieces ps HB H n vs Ds cs) (c : LC h b p ww wl rd rc ps HB) (s : Same H H') : LS h b p ww wl rd rc kvs bars pieces ps HB H' n vs Ds cs :=
  x.kt c (KtS.of s) (fun z hz => x.dm z (none_of s hz)) (s _ _ x.eh) (fun z hz => (x.wls z hz).same s) (s _ _ x.ed) (s _ _ x.ec) (x.al.imp fun _ _ d => d.same s)
theorem LS.putD (x : LS h b p ww wl rd rc kvs bars pieces ps HB H n vs Ds cs) (c : LC h b p ww wl rd rc ps HB) {us : List V} {Es : List Deed} (al : All2 (DeedAt HB H) us Es) : LS h b p ww wl rd rc kvs bars pieces ps HB (upd H rd (.lst us)) n us Es cs := by
  have k : KtS [rd, rc] H (upd H rd (.lst us)) := KtS.put x.ed List.mem_cons_self _
  exact x.kt c k (fun z hz => x.dm z (upd_none hz).1) (by rw [upd_ne (ne_of x.eh x.ed (by intro z; cases z))]; exact x.eh) (fun z hz => (x.wls z hz).put ((x.wls z hz).ne x.ed) _) upd_same (by rw [upd_ne c.dc.symm]; exact x.ec) (al.imp fun _ _ d => d.kt k c.es)
theorem LS.putC (x : LS h b p ww wl rd rc kvs bars pieces ps HB H n vs Ds cs) (c : LC h b p ww wl rd rc ps HB) {ks : List Nat} : LS h b p ww wl rd rc kvs bars pieces ps HB (upd H rc (.lst (ks.map nI))) n vs Ds ks := by
  have k : KtS [rd, rc] H (upd H rc (.lst (ks.map nI))) := KtS.put x.ec (List.mem_cons_of_mem _ List.mem_cons_self) _
  exact x.kt c k (fun z hz => x.dm z (upd_none hz).1) (by rw [upd_ne (ne_of x.eh x.ec (by intro z; cases z))]; exact x.eh) (fun z hz => (x.wls z hz).put ((x.wls z hz).ne x.ec) _) (by rw [upd_ne c.dc]; exact x.ed) upd_same (x.al.imp fun _ _ d => d.kt k c.es)
theorem LS.mono (x : LS h b p ww wl rd rc kvs bars pieces ps HB H n vs Ds cs) (hm : n ≤ m) : LS h b p ww wl rd rc kvs bars pieces ps HB H m vs Ds cs := { x with wls := fun q hq => (x.wls q hq).mono hm }
end
theorem sq_E {K : PySem.W.Frag} {H H1 H2 : Hp} {a w0 PT : Addr} {xs : List V} (h : SqL K H a xs) (s1 : Same H H1) (hw : H w0 = none) (hP : H PT = some (.tbl #[])) (s : SameE [w0, PT] H1 H2) : SqL K H2 a xs := by
  rcases h with (h | ⟨o, h⟩) | h
  · exact .inl (.inl (s _ _ (s1 _ _ h) (by have n1 := ne_of_none h hw; have n2 := ne_of h hP (by intro z; cases z); simp [n1, n2])))
  · exact .inl (.inr ⟨o, s _ _ (s1 _ _ h) (by have n1 := ne_of_none h hw; have n2 := ne_of h hP (by intro z; cases z); simp [n1, n2])⟩)
  · exact .inr h
section
variable {P : Program} {w : World} {K : PySem.W.Frag} {mg : Str → Option Value} {base : Heap} {PT : Addr}
seal L2.PS L2.PSs L2.PE L2.PT L2.PW L2.PA L2.PG L2.PGs L2.PI L2.PTs
theorem sc_law_well : FnScope ["_law_script", "_law_k", "_law_cell"] ["_law_script", "_law_k"] (defScope s_law_well) := ⟨rfl, rfl, rfl, by decide +kernel, rfl, by decide +kernel, by decide +kernel⟩
theorem ok_law_well  {f : Addr} {fd : FuncData} (F : Fun K "_law_well" "_law_well" s_law_well f fd) (m_len : mg "len" = none) : FnOk P w K mg base CX0 1 f fd ["_law_script", "_law_k"] (spWell K) := by
  refine F.ok sc_law_well (fun vs H Q E h => ?_) (fun cdv A outer s H vs Q E hr h => ?_)
  · obtain ⟨a, ns, k, rfl, hS, h63, k0, q⟩ := h
    rfl
  obtain ⟨a, ns, k, rfl, hS, h63, k0, q⟩ := h
  refine ⟨_, (pss_cons (ps_set (i := 2) sc_law_well.nd rfl (Or.inl rfl) pe_int)
    (pss_consM (ps_if (pt_cmpR op_lt (pv 1) (pe_callB call_len_seq rfl m_len PySem.boot_len (pa_cons (pv 0) pa_nil)) (nomark _)) (pss_one (ps_set (i := 2) sc_law_well.nd rfl (Or.inl rfl) (pe_ix ix_list (pv 0) (pv 1) (fun _ _ => rfl)))) pss_nil)
    (pss_one (ps_ret (pe_disp (pps_cons pe_str (pe_op op_fdivL (pv 2) pe_int) (pps_cons pe_str (pe_cmpR (u_eq (n := 4) hr.units) (pe_op op_mod (pv 2) pe_int) pe_int (nomark _)) (pps_cons pe_str pe_int pps_nil))) rfl rfl (by simp) (by decide)))))), ?_⟩
  (first | ((try clear hN); refine seq_hide fun N hN => ?_) | skip); (try simp (config := { contextual := true, maxSteps := 1000000 }) only [rdH1, uRepr_0, HO.dK.injEq, rdD1, rdB1, rdA1, rdA2, rdA3, rdA4, rdA5, rdS1, rdS2, reduceIte, Nat.reduceSub, Nat.reduceAdd, String.reduceBEq, Int.reducePow, Int.reduceNeg, Int.reduceLT, Int.reduceLE, Int.reduceToNat, Int.reduceMul, Int.reduceAdd, Int.reduceSub, reduceCtorEq, Nat.reduceLeDiff, Nat.reducePow, Nat.reduceLT, Int.reduceAbs])
  refine hN _ _ ?_
  unfold Go
  refine seqM_hide (fun σ' H' => ∃ c : Int, σ' = [some (.ref a), some (.int k), some (.int c)] ∧ H = H') ?_ ?_
  · (first | ((try clear hN); refine seq_hide fun N hN => ?_) | skip); (try simp (config := { contextual := true, maxSteps := 1000000 }) only [rdH1, uRepr_0, HO.dK.injEq, rdD1, rdB1, rdA1, rdA2, rdA3, rdA4, rdA5, rdS1, rdS2, reduceIte, Nat.reduceSub, Nat.reduceAdd, String.reduceBEq, Int.reducePow, Int.reduceNeg, Int.reduceLT, Int.reduceLE, Int.reduceToNat, Int.reduceMul, Int.reduceAdd, Int.reduceSub, reduceCtorEq, Nat.reduceLeDiff, Nat.reducePow, Nat.reduceLT, Int.reduceAbs])
    refine ⟨_, .inl hS, ite2 (fun h => ?_) (fun _ => trivial)⟩
    obtain ⟨v, ev⟩ := at_in (rs := ns) k0 (by rw [List.length_map] at h; exact h)
    exact ⟨a, _, _, _, rfl, rfl, hS, ev, ⟨v, rfl⟩, rfl⟩
  · rintro σ' H' ⟨c, rfl, rfl⟩
    (first | refine hN _ _ ?_ | skip); (first | unfold Go | skip); (first | ((try clear hN); refine seq_hide fun N hN => ?_) | skip); (try simp (config := { contextual := true, maxSteps := 1000000 }) only [rdH1, uRepr_0, HO.dK.injEq, rdD1, rdB1, rdA1, rdA2, rdA3, rdA4, rdA5, rdS1, rdS2, reduceIte, Nat.reduceSub, Nat.reduceAdd, String.reduceBEq, Int.reducePow, Int.reduceNeg, Int.reduceLT, Int.reduceLE, Int.reduceToNat, Int.reduceMul, Int.reduceAdd, Int.reduceSub, reduceCtorEq, Nat.reduceLeDiff, Nat.reducePow, Nat.reduceLT, Int.reduceAbs])
    intro p hp
    refine ⟨by decide, [(Sum.inr "cell", .int (c / 2)), (Sum.inr "digits", .bl (decide (c % 2 = 0))), (Sum.inr "turn", .int 0)], rfl, by show (3 : Nat) ≤ 15; omega, ?_⟩
    rw [well_mk, upd_upd]
    exact q p _ (same_new hp _) hp ⟨_, _, _, upd_same, Int.le_refl _, Int.le_refl _⟩
theorem sc_law_draw : FnScope ["_law_well_here", "_law_many", "_law_cell", "_law_turn", "_law_mixed"] ["_law_well_here", "_law_many"] (defScope s_law_draw) := ⟨rfl, rfl, rfl, by decide +kernel, rfl, by decide +kernel, by decide +kernel⟩
theorem ok_law_draw  {f : Addr} {fd : FuncData} (F : Fun K "_law_draw" "_law_draw" s_law_draw f fd) : FnOk P w K mg base CX0 1 f fd ["_law_well_here", "_law_many"] spDraw := by
  refine F.ok sc_law_draw (fun vs H Q E h => ?_) (fun cdv A outer s H vs Q E hr h => ?_)
  · obtain ⟨a, m, n, rfl, ⟨c, d, t, ea, t0, t1⟩, hn, m0, m1, q⟩ := h
    rfl
  obtain ⟨a, m, n, rfl, ⟨c, d, t, ea, t0, t1⟩, hn, m0, m1, q⟩ := h
  refine ⟨_, (pss_cons (ps_set (i := 2) sc_law_draw.nd rfl (Or.inl rfl) (pe_dgU (hu_of hr) (pv 0) pe_str (fun _ _ => rfl)))
    (pss_cons (ps_if (pt_val (pe_dgU (hu_of hr) (pv 0) pe_str (fun _ _ => rfl))) (pss_blk (pss_cons (ps_asg (pe_op op_fdivL (pv 2) (pv 1)) (pg_sub (pv 0) pe_str (u_setD (hu_of hr))))
    (pss_one (ps_ret (pe_op op_mod (pv 2) (pv 1)))))) pss_nil)
    (pss_cons (ps_set (i := 3) sc_law_draw.nd rfl (Or.inl rfl) (pe_op u_add (pe_dgU (hu_of hr) (pv 0) pe_str (fun _ _ => rfl)) pe_int))
    (pss_cons (ps_asg (pv 3) (pg_sub (pv 0) pe_str (u_setD (hu_of hr))))
    (pss_cons (ps_set (i := 4) sc_law_draw.nd rfl (Or.inl rfl) (pe_op op_mod (pe_op u_mul (pe_op u_add (pe_op u_add (pe_op op_mod (pv 2) pe_int) (pe_op u_mul (pe_op u_mul pe_int (pv 3)) (pv 3))) pe_int) (pe_op u_add pe_int (pe_op u_mul pe_int (pv 3)))) pe_int))
    (pss_one (ps_ret (pe_op op_mod (pe_op op_fdivL (pe_op op_mod (pe_op u_add (pe_op u_mul (pe_op op_fdivL (pv 4) pe_int) pe_int) (pv 3)) pe_int) pe_int) (pv 1))))))))), ?_⟩
  have put : ∀ c' t' : Int, SameE [a] H (upd H a (.dK (wellL c' d t'))) := fun c' t' b o e nb => by rw [upd_ne (fun z => nb (by simp [z]))]; exact e
  (first | ((try clear hN); refine seq_hide fun N hN => ?_) | skip); (try simp (config := { contextual := true, maxSteps := 1000000 }) only [rdH1, uRepr_0, HO.dK.injEq, rdD1, rdB1, rdA1, rdA2, rdA3, rdA4, rdA5, rdS1, rdS2, reduceIte, Nat.reduceSub, Nat.reduceAdd, String.reduceBEq, Int.reducePow, Int.reduceNeg, Int.reduceLT, Int.reduceLE, Int.reduceToNat, Int.reduceMul, Int.reduceAdd, Int.reduceSub, reduceCtorEq, Nat.reduceLeDiff, Nat.reducePow, Nat.reduceLT, Int.reduceAbs, ea, well_c])
  (first | refine hN _ _ ?_ | skip); (first | unfold Go | skip); (first | ((try clear hN); refine seq_hide fun N hN => ?_) | skip); (try simp (config := { contextual := true, maxSteps := 1000000 }) only [rdH1, uRepr_0, HO.dK.injEq, rdD1, rdB1, rdA1, rdA2, rdA3, rdA4, rdA5, rdS1, rdS2, reduceIte, Nat.reduceSub, Nat.reduceAdd, String.reduceBEq, Int.reducePow, Int.reduceNeg, Int.reduceLT, Int.reduceLE, Int.reduceToNat, Int.reduceMul, Int.reduceAdd, Int.reduceSub, reduceCtorEq, Nat.reduceLeDiff, Nat.reducePow, Nat.reduceLT, Int.reduceAbs, ea, well_d])
  refine ite2 (fun hd => ?_) (fun hd => ?_)
  · (first | refine hN _ _ ?_ | skip); (first | unfold Go | skip); (first | ((try clear hN); refine seq_hide fun N hN => ?_) | skip); (try simp (config := { contextual := true, maxSteps := 1000000 }) only [rdH1, uRepr_0, HO.dK.injEq, rdD1, rdB1, rdA1, rdA2, rdA3, rdA4, rdA5, rdS1, rdS2, reduceIte, Nat.reduceSub, Nat.reduceAdd, String.reduceBEq, Int.reducePow, Int.reduceNeg, Int.reduceLT, Int.reduceLE, Int.reduceToNat, Int.reduceMul, Int.reduceAdd, Int.reduceSub, reduceCtorEq, Nat.reduceLeDiff, Nat.reducePow, Nat.reduceLT, Int.reduceAbs, ea, well_pc])
    refine ⟨m0, log_ok m0 m1, by rw [well_len]; decide, ?_⟩
    (first | refine hN _ _ ?_ | skip); (first | unfold Go | skip); (first | ((try clear hN); refine seq_hide fun N hN => ?_) | skip); (try simp (config := { contextual := true, maxSteps := 1000000 }) only [rdH1, uRepr_0, HO.dK.injEq, rdD1, rdB1, rdA1, rdA2, rdA3, rdA4, rdA5, rdS1, rdS2, reduceIte, Nat.reduceSub, Nat.reduceAdd, String.reduceBEq, Int.reducePow, Int.reduceNeg, Int.reduceLT, Int.reduceLE, Int.reduceToNat, Int.reduceMul, Int.reduceAdd, Int.reduceSub, reduceCtorEq, Nat.reduceLeDiff, Nat.reducePow, Nat.reduceLT, Int.reduceAbs])
    exact ⟨m0, q _ _ (Int.emod_nonneg _ (by omega)) (Int.emod_lt_of_pos _ m0) (put _ _) ⟨_, _, _, upd_same, t0, by omega⟩⟩
  · (first | refine hN _ _ ?_ | skip); (first | unfold Go | skip); (first | ((try clear hN); refine seq_hide fun N hN => ?_) | skip); (try simp (config := { contextual := true, maxSteps := 1000000 }) only [rdH1, uRepr_0, HO.dK.injEq, rdD1, rdB1, rdA1, rdA2, rdA3, rdA4, rdA5, rdS1, rdS2, reduceIte, Nat.reduceSub, Nat.reduceAdd, String.reduceBEq, Int.reducePow, Int.reduceNeg, Int.reduceLT, Int.reduceLE, Int.reduceToNat, Int.reduceMul, Int.reduceAdd, Int.reduceSub, reduceCtorEq, Nat.reduceLeDiff, Nat.reducePow, Nat.reduceLT, Int.reduceAbs, ea, well_t])
    (first | refine hN _ _ ?_ | skip); (first | unfold Go | skip); (first | ((try clear hN); refine seq_hide fun N hN => ?_) | skip); (try simp (config := { contextual := true, maxSteps := 1000000 }) only [rdH1, uRepr_0, HO.dK.injEq, rdD1, rdB1, rdA1, rdA2, rdA3, rdA4, rdA5, rdS1, rdS2, reduceIte, Nat.reduceSub, Nat.reduceAdd, String.reduceBEq, Int.reducePow, Int.reduceNeg, Int.reduceLT, Int.reduceLE, Int.reduceToNat, Int.reduceMul, Int.reduceAdd, Int.reduceSub, reduceCtorEq, Nat.reduceLeDiff, Nat.reducePow, Nat.reduceLT, Int.reduceAbs, ea, well_pt])
    refine ⟨by rw [well_len]; decide, ?_⟩
    (first | refine hN _ _ ?_ | skip); (first | unfold Go | skip); (first | ((try clear hN); refine seq_hide fun N hN => ?_) | skip); (try simp (config := { contextual := true, maxSteps := 1000000 }) only [rdH1, uRepr_0, HO.dK.injEq, rdD1, rdB1, rdA1, rdA2, rdA3, rdA4, rdA5, rdS1, rdS2, reduceIte, Nat.reduceSub, Nat.reduceAdd, String.reduceBEq, Int.reducePow, Int.reduceNeg, Int.reduceLT, Int.reduceLE, Int.reduceToNat, Int.reduceMul, Int.reduceAdd, Int.reduceSub, reduceCtorEq, Nat.reduceLeDiff, Nat.reducePow, Nat.reduceLT, Int.reduceAbs])
    refine ⟨.inr ⟨by omega, by omega⟩, .inr ⟨by omega, by omega⟩, ?_⟩
    (first | refine hN _ _ ?_ | skip); (first | unfold Go | skip); (first | ((try clear hN); refine seq_hide fun N hN => ?_) | skip); (try simp (config := { contextual := true, maxSteps := 1000000 }) only [rdH1, uRepr_0, HO.dK.injEq, rdD1, rdB1, rdA1, rdA2, rdA3, rdA4, rdA5, rdS1, rdS2, reduceIte, Nat.reduceSub, Nat.reduceAdd, String.reduceBEq, Int.reducePow, Int.reduceNeg, Int.reduceLT, Int.reduceLE, Int.reduceToNat, Int.reduceMul, Int.reduceAdd, Int.reduceSub, reduceCtorEq, Nat.reduceLeDiff, Nat.reducePow, Nat.reduceLT, Int.reduceAbs])
    generalize (c % 2147483647 + 31 * (t + 1) * (t + 1) + 1) * (48271 + 40 * (t + 1)) = y
    have y0 := Int.emod_nonneg y (show (2147483629 : Int) ≠ 0 by decide)
    have y1 := Int.emod_lt_of_pos y (show (0 : Int) < 2147483629 by decide)
    generalize y % 2147483629 = x at y0 y1 ⊢
    exact ⟨by decide, by decide, m0, q _ _ (Int.emod_nonneg _ (by omega)) (Int.emod_lt_of_pos _ m0) (put _ _) ⟨_, _, _, upd_same, by omega, by omega⟩⟩
theorem sc_law_wells : FnScope ["_law_script", "_law_first", "_law_most", "_law_wells_here", "_law_cell", "_law_j"] ["_law_script", "_law_first", "_law_most"] (defScope s_law_wells) := ⟨rfl, rfl, rfl, by decide +kernel, rfl, by decide +kernel, by decide +kernel⟩
theorem ndc_law_wells0 : (["_law_k", "_law_script"] : List Str).Nodup := by decide +kernel
theorem ok_law_wells  {f : Addr} {fd : FuncData} (F : Fun K "_law_wells" "_law_wells" s_law_wells f fd)
    {f__law_draw : Addr} {d__law_draw : FuncData} (G__law_draw : FnOk P w K mg base CX0 1 f__law_draw d__law_draw ["_law_well_here", "_law_many"] spDraw) (b__law_draw : Binds K d__law_draw ["_law_well_here", "_law_many"] []) (k__law_draw : PySem.W.keepIn K (.ref f__law_draw) = true) (m__law_draw : mg "_law_draw" = some (.ref f__law_draw))
    {f__law_well : Addr} {d__law_well : FuncData} (G__law_well : FnOk P w K mg base CX0 1 f__law_well d__law_well ["_law_script", "_law_k"] (spWell K)) (b__law_well : Binds K d__law_well ["_law_script", "_law_k"] []) (k__law_well : PySem.W.keepIn K (.ref f__law_well) = true) (m__law_well : mg "_law_well" = some (.ref f__law_well)) (m_range : mg "range" = none) (m_min : mg "min" = none) (m_len : mg "len" = none) : FnOk P w K mg base CX0 2 f fd ["_law_script", "_law_first", "_law_most"] (spWells K) := by
  refine F.ok sc_law_wells (fun vs H Q E h => ?_) (fun cdv A outer s H vs Q E hr h => ?_)
  · obtain ⟨a, ns, rfl, hS, h63, q⟩ := h
    rfl
  obtain ⟨a, ns, rfl, hS, h63, q⟩ := h
  refine ⟨_, (pss_cons (ps_setC (k := 3) (own := ["_law_k"]) (capn := ["_law_script"]) (caps := [0]) rfl ⟨rfl, by decide +kernel, by decide +kernel, (by show ∀ y : Str × NameKind, y ∈ _ → y.2 = NameKind.free → (defScope s_law_wells).names.lookup y.1 = some .cell ∨ (defScope s_law_wells).names.lookup y.1 = some .free; decide +kernel), by decide +kernel, rfl⟩ (pi_range2 rfl m_range (pa_cons (pv 1) (pa_cons (pe_callB (u_minA rfl) rfl m_min PyProof.Rows.boot_min (pa_cons (pe_callB call_len_seq rfl m_len PySem.boot_len (pa_cons (pv 0) pa_nil)) (pa_cons (pe_op u_add (pv 1) (pv 2)) pa_nil))) pa_nil))) (fun _ _ _ _ _ => (pg_name (i := 0) ndc_law_wells0 rfl (Or.inl rfl))) (fun _ _ _ _ _ => pts_nil) (fun _ _ _ _ _ => (pe_call G__law_well hr rfl m__law_well k__law_well b__law_well .nil pass0 (pa_cons (pv 1) (pa_cons (pv 0) pa_nil)))) sc_law_wells.nd rfl (Or.inl rfl))
    (pss_cons (ps_set (i := 4) sc_law_wells.nd rfl (Or.inl rfl) (pe_dgU (hu_of hr) (pe_call G__law_well hr rfl m__law_well k__law_well b__law_well .nil pass0 (pa_cons (pv 0) (pa_cons pe_int pa_nil))) pe_str (fun _ _ => rfl)))
    (pss_cons (ps_for PassesOwn.never rfl (pi_range1 rfl m_range (pa_cons (pe_call G__law_draw hr rfl m__law_draw k__law_draw b__law_draw .nil pass0 (pa_cons (pe_disp (pps_cons pe_str (pv 4) (pps_cons pe_str pe_bl (pps_cons pe_str pe_int pps_nil))) rfl rfl (by simp) (by decide)) (pa_cons (pv 2) pa_nil))) pa_nil)) (pg_name (i := 5) sc_law_wells.nd rfl (Or.inl rfl)) (pss_one (ps_expr (pe_bm PySem.F.plainAttrs_list PySem.F.slot_list_append PySem.F.type_list_append u_app (pv 3) (pa_cons (pe_disp (pps_cons pe_str (pe_op u_add (pe_op u_add (pv 4) (pe_op u_mul (pe_op u_mul pe_int (pv 5)) (pv 5))) (pv 5)) (pps_cons pe_str pe_bl (pps_cons pe_str pe_int pps_nil))) rfl rfl (by simp) (by decide)) pa_nil)))))
    (pss_one (ps_ret (pe_slice u_cut (pv 3) po_none (po_some (pv 2)))))))), ?_⟩
  (first | ((try clear hN); refine seq_hide fun N hN => ?_) | skip); (try simp (config := { contextual := true, maxSteps := 1000000 }) only [rdH1, uRepr_0, HO.dK.injEq, rdD1, rdB1, rdA1, rdA2, rdA3, rdA4, rdA5, rdS1, rdS2, reduceIte, Nat.reduceSub, Nat.reduceAdd, String.reduceBEq, Int.reducePow, Int.reduceNeg, Int.reduceLT, Int.reduceLE, Int.reduceToNat, Int.reduceMul, Int.reduceAdd, Int.reduceSub, reduceCtorEq, Nat.reduceLeDiff, Nat.reducePow, Nat.reduceLT, Int.reduceAbs])
  refine ⟨_, .inl hS, by rw [List.length_map]; omega, by omega, ?_⟩
  refine comp_range (fun i ys H' => ∃ ps : List Addr, ys = ps.map V.ref ∧ ps.length = i ∧ Same H H' ∧ ∀ p ∈ ps, H p = none ∧ Wl H' p 10) ⟨[], rfl, rfl, Same.refl _, fun p hp => by cases hp⟩ (fun i ys H' hi ⟨ps, e, hl, _⟩ => by rw [e, List.length_map, hl]; exact small1 (by omega)) ?_ ?_
  · rintro i ys H' M hi ⟨ps, rfl, hl, sm, hp⟩ nxt
    (first | ((try clear hN); refine seq_hide fun N hN => ?_) | skip); (try simp (config := { contextual := true, maxSteps := 1000000 }) only [rdH1, uRepr_0, HO.dK.injEq, rdD1, rdB1, rdA1, rdA2, rdA3, rdA4, rdA5, rdS1, rdS2, reduceIte, Nat.reduceSub, Nat.reduceAdd, String.reduceBEq, Int.reducePow, Int.reduceNeg, Int.reduceLT, Int.reduceLE, Int.reduceToNat, Int.reduceMul, Int.reduceAdd, Int.reduceSub, reduceCtorEq, Nat.reduceLeDiff, Nat.reducePow, Nat.reduceLT, Int.reduceAbs])
    refine ⟨a, ns, _, rfl, same_sq hS sm, h63, by omega, fun p H2 s2 n2 w2 => nxt _ _ ⟨ps ++ [p], by rw [List.map_append]; rfl, by rw [List.length_append, hl]; rfl, sm.trans s2, fun b hb => ?_⟩⟩
    rcases List.mem_append.mp hb with hb | hb
    · exact ⟨(hp b hb).1, (hp b hb).2.same s2⟩
    · rw [List.mem_singleton.mp hb]; exact ⟨none_of sm n2, w2.mono (by decide)⟩
  · rintro ys H1 r ⟨ps, rfl, hl, sm, hp⟩ hr'
    have s1 := same_new hr' (.lst (ps.map V.ref))
    have e1 : (upd H1 r (.lst (ps.map V.ref))) r = some (.lst (ps.map V.ref)) := upd_same
    have rH := none_of sm hr'
    generalize upd H1 r (.lst (ps.map V.ref)) = H2 at s1 e1 ⊢
    have sm2 := sm.trans s1
    have hp2 : ∀ p ∈ ps, H p = none ∧ Wl H2 p 10 := fun p h => ⟨(hp p h).1, (hp p h).2.same s1⟩
    (first | refine hN _ _ ?_ | skip); (first | unfold Go | skip); (first | ((try clear hN); refine seq_hide fun N hN => ?_) | skip); (try simp (config := { contextual := true, maxSteps := 1000000 }) only [rdH1, uRepr_0, HO.dK.injEq, rdD1, rdB1, rdA1, rdA2, rdA3, rdA4, rdA5, rdS1, rdS2, reduceIte, Nat.reduceSub, Nat.reduceAdd, String.reduceBEq, Int.reducePow, Int.reduceNeg, Int.reduceLT, Int.reduceLE, Int.reduceToNat, Int.reduceMul, Int.reduceAdd, Int.reduceSub, reduceCtorEq, Nat.reduceLeDiff, Nat.reducePow, Nat.reduceLT, Int.reduceAbs])
    refine ⟨a, ns, 0, rfl, same_sq hS sm2, h63, by decide, fun p0 H3 s3 n3 w3 => ?_⟩
    obtain ⟨c, d, t, ec, _⟩ := w3
    (first | ((try clear hN); refine seq_hide fun N hN => ?_) | skip); (try simp (config := { contextual := true, maxSteps := 1000000 }) only [rdH1, uRepr_0, HO.dK.injEq, rdD1, rdB1, rdA1, rdA2, rdA3, rdA4, rdA5, rdS1, rdS2, reduceIte, Nat.reduceSub, Nat.reduceAdd, String.reduceBEq, Int.reducePow, Int.reduceNeg, Int.reduceLT, Int.reduceLE, Int.reduceToNat, Int.reduceMul, Int.reduceAdd, Int.reduceSub, reduceCtorEq, Nat.reduceLeDiff, Nat.reducePow, Nat.reduceLT, Int.reduceAbs, ec, well_c])
    have sm3 := sm2.trans s3
    have e3 := s3.some e1
    have hp3 : ∀ p ∈ ps, H p = none ∧ Wl H3 p 10 := fun p h => ⟨(hp2 p h).1, (hp2 p h).2.same s3⟩
    (first | refine hN _ _ ?_ | skip); (first | unfold Go | skip); (first | ((try clear hN); refine seq_hide fun N hN => ?_) | skip); (try simp (config := { contextual := true, maxSteps := 1000000 }) only [rdH1, uRepr_0, HO.dK.injEq, rdD1, rdB1, rdA1, rdA2, rdA3, rdA4, rdA5, rdS1, rdS2, reduceIte, Nat.reduceSub, Nat.reduceAdd, String.reduceBEq, Int.reducePow, Int.reduceNeg, Int.reduceLT, Int.reduceLE, Int.reduceToNat, Int.reduceMul, Int.reduceAdd, Int.reduceSub, reduceCtorEq, Nat.reduceLeDiff, Nat.reducePow, Nat.reduceLT, Int.reduceAbs])
    intro dd hdd
    refine ⟨[(Sum.inr "cell", .int c), (Sum.inr "digits", .bl false), (Sum.inr "turn", .int 90)], rfl, by show (3 : Nat) ≤ 15; omega, ?_⟩
    rw [well_mk, upd_upd]
    have s4 := same_new hdd (.dK (wellL c false 90))
    have w4 : Wl (upd H3 dd (.dK (wellL c false 90))) dd 90 := ⟨_, _, _, upd_same, by decide, by decide⟩
    generalize upd H3 dd (.dK (wellL c false 90)) = H4 at s4 w4 ⊢
    refine ⟨dd, 60, 90, rfl, w4, by decide, by decide, by decide, fun v H5 v0 v1 s5 w5 => ?_⟩
    have ddH := none_of sm3 hdd
    have k5 : ∀ b o, H3 b = some o → H5 b = some o := fun b o e => s5 b o (s4 b o e) (fun z => by
      obtain rfl : b = dd := by simpa using z
      rw [hdd] at e; cases e)
    have sm5 : Same H H5 := sm3.trans k5
    have hp5 : ∀ p ∈ ps, H p = none ∧ Wl H5 p 10 := fun p h => ⟨(hp3 p h).1, (hp3 p h).2.same k5⟩
    (first | ((try clear hN); refine seq_hide fun N hN => ?_) | skip); (try simp (config := { contextual := true, maxSteps := 1000000 }) only [rdH1, uRepr_0, HO.dK.injEq, rdD1, rdB1, rdA1, rdA2, rdA3, rdA4, rdA5, rdS1, rdS2, reduceIte, Nat.reduceSub, Nat.reduceAdd, String.reduceBEq, Int.reducePow, Int.reduceNeg, Int.reduceLT, Int.reduceLE, Int.reduceToNat, Int.reduceMul, Int.reduceAdd, Int.reduceSub, reduceCtorEq, Nat.reduceLeDiff, Nat.reducePow, Nat.reduceLT, Int.reduceAbs])
    refine ⟨by omega, by omega, ?_⟩
    refine loop_range (fun i σ H' => ∃ (ps : List Addr) (v5 : Option V), σ = [some (.ref a), some (.int 1), some (.int 60), some (.ref r), some (.int c), v5] ∧ Same H H' ∧ H' r = some (.lst (ps.map V.ref)) ∧ ps.length ≤ 60 + i ∧ ∀ p ∈ ps, H p = none ∧ Wl H' p 10) ⟨ps, none, rfl, sm5, k5 _ _ e3, by rw [List.length_map] at hl; omega, hp5⟩ ?_ ?_
    · rintro i σ H' hi ⟨ps, v5, rfl, sm, er, hl2, hpp⟩
      (first | ((try clear hN); refine seq_hide fun N hN => ?_) | skip); (try simp (config := { contextual := true, maxSteps := 1000000 }) only [rdH1, uRepr_0, HO.dK.injEq, rdD1, rdB1, rdA1, rdA2, rdA3, rdA4, rdA5, rdS1, rdS2, reduceIte, Nat.reduceSub, Nat.reduceAdd, String.reduceBEq, Int.reducePow, Int.reduceNeg, Int.reduceLT, Int.reduceLE, Int.reduceToNat, Int.reduceMul, Int.reduceAdd, Int.reduceSub, reduceCtorEq, Nat.reduceLeDiff, Nat.reducePow, Nat.reduceLT, Int.reduceAbs, er])
      intro p hp'
      refine ⟨.inr ⟨by omega, by omega⟩, [(Sum.inr "cell", .int _), (Sum.inr "digits", .bl false), (Sum.inr "turn", .int 7)], rfl, by show (3 : Nat) ≤ 15; omega, ?_⟩
      rw [well_mk, upd_upd]
      have s7 := same_new hp' (.dK (wellL (c + 7919 * (0 + (i : Int)) * (0 + (i : Int)) + (0 + (i : Int))) false 7))
      have w7 : Wl (upd H' p (.dK (wellL (c + 7919 * (0 + (i : Int)) * (0 + (i : Int)) + (0 + (i : Int))) false 7))) p 10 := ⟨_, _, _, upd_same, by decide, by decide⟩
      generalize upd H' p (.dK (wellL (c + 7919 * (0 + (i : Int)) * (0 + (i : Int)) + (0 + (i : Int))) false 7)) = H7 at s7 w7 ⊢
      have er7 := s7.some er
      refine ⟨_, er7, by rw [List.length_map]; omega, same_put rH (sm.trans s7), ps ++ [p], by rw [List.map_append]; rfl, by rw [List.length_append]; show ps.length + 1 ≤ _; omega, fun b hb => ?_⟩
      rcases List.mem_append.mp hb with hb | hb
      · have w8 := (hpp b hb).2.same s7
        exact ⟨(hpp b hb).1, w8.put (w8.ne er7) _⟩
      · rw [List.mem_singleton.mp hb]; exact ⟨none_of sm hp', w7.put (w7.ne er7) _⟩
    · rintro σ H' ⟨ps, v5, rfl, sm, er, hl2, hpp⟩
      (first | refine hN _ _ ?_ | skip); (first | unfold Go | skip); (first | ((try clear hN); refine seq_hide fun N hN => ?_) | skip); (try simp (config := { contextual := true, maxSteps := 1000000 }) only [rdH1, uRepr_0, HO.dK.injEq, rdD1, rdB1, rdA1, rdA2, rdA3, rdA4, rdA5, rdS1, rdS2, reduceIte, Nat.reduceSub, Nat.reduceAdd, String.reduceBEq, Int.reducePow, Int.reduceNeg, Int.reduceLT, Int.reduceLE, Int.reduceToNat, Int.reduceMul, Int.reduceAdd, Int.reduceSub, reduceCtorEq, Nat.reduceLeDiff, Nat.reducePow, Nat.reduceLT, Int.reduceAbs, er])
      intro rr hrr
      rw [show (60 : Int) = ((60 : Nat) : Int) from rfl, cut_take, ← List.map_take]
      refine q rr (ps.take 60) _ (sm.trans (same_new hrr _)) (none_of sm hrr) upd_same (by rw [List.length_take]; omega) fun p hp' => ?_
      have z := hpp p (List.mem_of_mem_take hp')
      exact ⟨z.1, z.2.same (same_new hrr _)⟩
theorem sc_law_names : FnScope ["_law_well_here", "_law_many", "_law_base", "_law_letters", "_law_at", "_law_first", "_law_found", "_law_k", "_law_end", "_law_sign"] ["_law_well_here", "_law_many", "_law_base"] (defScope s_law_names) := ⟨rfl, rfl, rfl, by decide +kernel, rfl, by decide +kernel, by decide +kernel⟩
theorem ndc_law_names0 : (["_law_k", "_law_base"] : List Str).Nodup := by decide +kernel
theorem ok_law_names  {f : Addr} {fd : FuncData} (F : Fun K "_law_names" "_law_names" s_law_names f fd)
    {f__law_draw : Addr} {d__law_draw : FuncData} (G__law_draw : FnOk P w K mg base CX0 1 f__law_draw d__law_draw ["_law_well_here", "_law_many"] spDraw) (b__law_draw : Binds K d__law_draw ["_law_well_here", "_law_many"] []) (k__law_draw : PySem.W.keepIn K (.ref f__law_draw) = true) (m__law_draw : mg "_law_draw" = some (.ref f__law_draw)) (m_range : mg "range" = none) : FnOk P w K mg base CX0 2 f fd ["_law_well_here", "_law_many", "_law_base"] spNames := by
  refine F.ok sc_law_names (fun vs H Q E h => ?_) (fun cdv A outer s H vs Q E hr h => ?_)
  · obtain ⟨a, n, many, bs, rfl, hw, hn, m0, m1, hb, q⟩ := h
    rfl
  obtain ⟨a, n, many, bs, rfl, hw, hn, m0, m1, hb, q⟩ := h
  refine ⟨_, (pss_cons (ps_set (i := 3) sc_law_names.nd rfl (Or.inl rfl) pe_str)
    (pss_cons (ps_if (PW.pt (pw_and (pt_cmpR (u_eq (n := 4) hr.units) (pe_call G__law_draw hr rfl m__law_draw k__law_draw b__law_draw .nil pass0 (pa_cons (pv 0) (pa_cons pe_int pa_nil))) pe_int (nomark _)) (pw_and1 (pt_cmpR op_lt (pv 1) pe_int (nomark _))))) (pss_one (ps_ret (pe_comp (own := ["_law_k"]) (capn := ["_law_base"]) (caps := [2]) rfl ⟨rfl, by decide +kernel, by decide +kernel, (by show ∀ y : Str × NameKind, y ∈ _ → y.2 = NameKind.free → (defScope s_law_names).names.lookup y.1 = some .cell ∨ (defScope s_law_names).names.lookup y.1 = some .free; decide +kernel), by decide +kernel, rfl⟩ (pi_range1 rfl m_range (pa_cons (pv 1) pa_nil)) (fun _ _ _ _ _ => (pg_name (i := 0) ndc_law_names0 rfl (Or.inl rfl))) (fun _ _ _ _ _ => pts_nil) (fun _ _ _ _ _ => (pe_slice u_cut (pv 1) po_none (po_some (pe_op u_add (pv 0) pe_int))))))) pss_nil)
    (pss_cons (ps_set (i := 4) sc_law_names.nd rfl (Or.inl rfl) (pe_call G__law_draw hr rfl m__law_draw k__law_draw b__law_draw .nil pass0 (pa_cons (pv 0) (pa_cons pe_int pa_nil))))
    (pss_cons (ps_set (i := 5) sc_law_names.nd rfl (Or.inl rfl) (pe_call G__law_draw hr rfl m__law_draw k__law_draw b__law_draw .nil pass0 (pa_cons (pv 0) (pa_cons pe_int pa_nil))))
    (pss_cons (ps_set (i := 6) sc_law_names.nd rfl (Or.inl rfl) (pe_lst pa_nil))
    (pss_cons (ps_for PassesOwn.never rfl (pi_range1 rfl m_range (pa_cons (pv 1) pa_nil)) (pg_name (i := 7) sc_law_names.nd rfl (Or.inl rfl)) (pss_blk (pss_cons (ps_set (i := 8) sc_law_names.nd rfl (Or.inl rfl) (pe_op u_add (pe_op u_add (pv 4) pe_int) (pe_call G__law_draw hr rfl m__law_draw k__law_draw b__law_draw .nil pass0 (pa_cons (pv 0) (pa_cons (pe_op op_sub pe_int (pv 4)) pa_nil)))))
    (pss_cons (ps_set (i := 9) sc_law_names.nd rfl (Or.inl rfl) (pe_ix u_ix (pv 3) (pe_op op_mod (pe_op u_add (pv 5) (pv 7)) pe_int) (fun _ _ => rfl)))
    (pss_one (ps_expr (pe_bm PySem.F.plainAttrs_list PySem.F.slot_list_append PySem.F.type_list_append u_app (pv 6) (pa_cons (pe_op u_add (pe_op u_add (pe_slice u_cut (pv 2) po_none (po_some (pv 4))) (pv 9)) (pe_slice u_cut (pv 2) (po_some (pe_op u_add (pv 4) pe_int)) (po_some (pv 8)))) pa_nil))))))))
    (pss_one (ps_ret (pv 6))))))))), ?_⟩
  (first | ((try clear hN); refine seq_hide fun N hN => ?_) | skip); (try simp (config := { contextual := true, maxSteps := 1000000 }) only [rdH1, uRepr_0, HO.dK.injEq, rdD1, rdB1, rdA1, rdA2, rdA3, rdA4, rdA5, rdS1, rdS2, reduceIte, Nat.reduceSub, Nat.reduceAdd, String.reduceBEq, Int.reducePow, Int.reduceNeg, Int.reduceLT, Int.reduceLE, Int.reduceToNat, Int.reduceMul, Int.reduceAdd, Int.reduceSub, reduceCtorEq, Nat.reduceLeDiff, Nat.reducePow, Nat.reduceLT, Int.reduceAbs])
  (first | refine hN _ _ ?_ | skip); (first | unfold Go | skip); (first | ((try clear hN); refine seq_hide fun N hN => ?_) | skip); (try simp (config := { contextual := true, maxSteps := 1000000 }) only [rdH1, uRepr_0, HO.dK.injEq, rdD1, rdB1, rdA1, rdA2, rdA3, rdA4, rdA5, rdS1, rdS2, reduceIte, Nat.reduceSub, Nat.reduceAdd, String.reduceBEq, Int.reducePow, Int.reduceNeg, Int.reduceLT, Int.reduceLE, Int.reduceToNat, Int.reduceMul, Int.reduceAdd, Int.reduceSub, reduceCtorEq, Nat.reduceLeDiff, Nat.reducePow, Nat.reduceLT, Int.reduceAbs])
  refine ⟨a, 3, n, rfl, hw, by omega, by decide, by decide, fun v H1 v0 v1 s1 w1 => ?_⟩
  have nx : N [some (.ref a), some (.int many), some (.str bs), some (.str lett), none, none, none, none, none, none] H1 := by
    (first | refine hN _ _ ?_ | skip); (first | unfold Go | skip); (first | ((try clear hN); refine seq_hide fun N hN => ?_) | skip); (try simp (config := { contextual := true, maxSteps := 1000000 }) only [rdH1, uRepr_0, HO.dK.injEq, rdD1, rdB1, rdA1, rdA2, rdA3, rdA4, rdA5, rdS1, rdS2, reduceIte, Nat.reduceSub, Nat.reduceAdd, String.reduceBEq, Int.reducePow, Int.reduceNeg, Int.reduceLT, Int.reduceLE, Int.reduceToNat, Int.reduceMul, Int.reduceAdd, Int.reduceSub, reduceCtorEq, Nat.reduceLeDiff, Nat.reducePow, Nat.reduceLT, Int.reduceAbs])
    refine ⟨a, 8, n + 1, rfl, w1, by omega, by decide, by decide, fun av H2 a0 a1 s2 w2 => ?_⟩
    (first | refine hN _ _ ?_ | skip); (first | unfold Go | skip); (first | ((try clear hN); refine seq_hide fun N hN => ?_) | skip); (try simp (config := { contextual := true, maxSteps := 1000000 }) only [rdH1, uRepr_0, HO.dK.injEq, rdD1, rdB1, rdA1, rdA2, rdA3, rdA4, rdA5, rdS1, rdS2, reduceIte, Nat.reduceSub, Nat.reduceAdd, String.reduceBEq, Int.reducePow, Int.reduceNeg, Int.reduceLT, Int.reduceLE, Int.reduceToNat, Int.reduceMul, Int.reduceAdd, Int.reduceSub, reduceCtorEq, Nat.reduceLeDiff, Nat.reducePow, Nat.reduceLT, Int.reduceAbs])
    refine ⟨a, 26, n + 1 + 1, rfl, w2, by omega, by decide, by decide, fun fv H3 f0 f1 s3 w3 => ?_⟩
    (first | refine hN _ _ ?_ | skip); (first | unfold Go | skip); (first | ((try clear hN); refine seq_hide fun N hN => ?_) | skip); (try simp (config := { contextual := true, maxSteps := 1000000 }) only [rdH1, uRepr_0, HO.dK.injEq, rdD1, rdB1, rdA1, rdA2, rdA3, rdA4, rdA5, rdS1, rdS2, reduceIte, Nat.reduceSub, Nat.reduceAdd, String.reduceBEq, Int.reducePow, Int.reduceNeg, Int.reduceLT, Int.reduceLE, Int.reduceToNat, Int.reduceMul, Int.reduceAdd, Int.reduceSub, reduceCtorEq, Nat.reduceLeDiff, Nat.reducePow, Nat.reduceLT, Int.reduceAbs])
    intro r hr'
    have s123 := s1.trans (s2.trans s3)
    have rH := noneE s123 hr' (w3.notin hr')
    (first | refine hN _ _ ?_ | skip); (first | unfold Go | skip); (first | ((try clear hN); refine seq_hide fun N hN => ?_) | skip); (try simp (config := { contextual := true, maxSteps := 1000000 }) only [rdH1, uRepr_0, HO.dK.injEq, rdD1, rdB1, rdA1, rdA2, rdA3, rdA4, rdA5, rdS1, rdS2, reduceIte, Nat.reduceSub, Nat.reduceAdd, String.reduceBEq, Int.reducePow, Int.reduceNeg, Int.reduceLT, Int.reduceLE, Int.reduceToNat, Int.reduceMul, Int.reduceAdd, Int.reduceSub, reduceCtorEq, Nat.reduceLeDiff, Nat.reducePow, Nat.reduceLT, Int.reduceAbs])
    refine ⟨by omega, by omega, ?_⟩
    refine loop_range (fun i σ H' => ∃ (xs : List Str) (v7 v8 v9 : Option V), σ = [some (.ref a), some (.int many), some (.str bs), some (.str lett), some (.int av), some (.int fv), some (.ref r), v7, v8, v9] ∧ SameE [a] H H' ∧ Wl H' a (n + 3 + i) ∧ H' r = some (.lst (xs.map V.str)) ∧ xs.length = i ∧ ∀ x ∈ xs, NmOk 20 x) ⟨[], none, none, none, rfl, s123.new hr' _, (w3.new hr' _).mono (by omega), upd_same, rfl, fun x hx => by cases hx⟩ ?_ ?_
    · rintro i σ H' hi ⟨xs, v7, v8, v9, rfl, sm, wl, er, hl, hx⟩
      (first | ((try clear hN); refine seq_hide fun N hN => ?_) | skip); (try simp (config := { contextual := true, maxSteps := 1000000 }) only [rdH1, uRepr_0, HO.dK.injEq, rdD1, rdB1, rdA1, rdA2, rdA3, rdA4, rdA5, rdS1, rdS2, reduceIte, Nat.reduceSub, Nat.reduceAdd, String.reduceBEq, Int.reducePow, Int.reduceNeg, Int.reduceLT, Int.reduceLE, Int.reduceToNat, Int.reduceMul, Int.reduceAdd, Int.reduceSub, reduceCtorEq, Nat.reduceLeDiff, Nat.reducePow, Nat.reduceLT, Int.reduceAbs])
      refine ⟨a, 8 - av, n + 3 + i, rfl, wl, by omega, by omega, by unfold big60; omega, fun ev H4 e0 e1 s4 w4 => ?_⟩
      have er4 := s4.lst wl.dky er
      obtain ⟨c, ec, hc⟩ := lett_at (k := (fv + (0 + (i : Int))) % 26) (Int.emod_nonneg _ (by decide)) (Int.emod_lt_of_pos _ (by decide))
      (first | ((try clear hN); refine seq_hide fun N hN => ?_) | skip); (try simp (config := { contextual := true, maxSteps := 1000000 }) only [rdH1, uRepr_0, HO.dK.injEq, rdD1, rdB1, rdA1, rdA2, rdA3, rdA4, rdA5, rdS1, rdS2, reduceIte, Nat.reduceSub, Nat.reduceAdd, String.reduceBEq, Int.reducePow, Int.reduceNeg, Int.reduceLT, Int.reduceLE, Int.reduceToNat, Int.reduceMul, Int.reduceAdd, Int.reduceSub, reduceCtorEq, Nat.reduceLeDiff, Nat.reducePow, Nat.reduceLT, Int.reduceAbs])
      have lz : lett.length ≤ 16777216 := by decide +kernel
      (first | refine hN _ _ ?_ | skip); (first | unfold Go | skip); (first | ((try clear hN); refine seq_hide fun N hN => ?_) | skip); (try simp (config := { contextual := true, maxSteps := 1000000 }) only [rdH1, uRepr_0, HO.dK.injEq, rdD1, rdB1, rdA1, rdA2, rdA3, rdA4, rdA5, rdS1, rdS2, reduceIte, Nat.reduceSub, Nat.reduceAdd, String.reduceBEq, Int.reducePow, Int.reduceNeg, Int.reduceLT, Int.reduceLE, Int.reduceToNat, Int.reduceMul, Int.reduceAdd, Int.reduceSub, reduceCtorEq, Nat.reduceLeDiff, Nat.reducePow, Nat.reduceLT, Int.reduceAbs, ec, lz])
      have hbl := hb.1
      have o1 := slice_ok none (some av) hb
      have o2 := slice_ok (some (av + 1)) (some (av + 1 + ev)) hb
      have o3 := app_ok (app_ok o1 hc) o2
      (first | refine hN _ _ ?_ | skip); (first | unfold Go | skip); (first | ((try clear hN); refine seq_hide fun N hN => ?_) | skip); (try simp (config := { contextual := true, maxSteps := 1000000 }) only [rdH1, uRepr_0, HO.dK.injEq, rdD1, rdB1, rdA1, rdA2, rdA3, rdA4, rdA5, rdS1, rdS2, reduceIte, Nat.reduceSub, Nat.reduceAdd, String.reduceBEq, Int.reducePow, Int.reduceNeg, Int.reduceLT, Int.reduceLE, Int.reduceToNat, Int.reduceMul, Int.reduceAdd, Int.reduceSub, reduceCtorEq, Nat.reduceLeDiff, Nat.reducePow, Nat.reduceLT, Int.reduceAbs, er4])
      have l1 := o1.1
      have l2 := o2.1
      have l3 := (app_ok o1 hc).1
      have l4 := hc.1
      have rna := w4.ne er4
      exact ⟨by omega, by omega, by omega, by omega, by rw [List.length_map]; omega, (sm.trans s4).put rH _, (w4.put rna _).mono (by omega), xs ++ [_], strs_snoc, by rw [List.length_append, hl]; rfl, fun x hx' => (List.mem_append.mp hx').elim (hx x) fun h => by rw [List.mem_singleton.mp h]; exact o3.mono (by decide)⟩
    · rintro σ H' ⟨xs, v7, v8, v9, rfl, sm, wl, er, hl, hx⟩
      (first | refine hN _ _ ?_ | skip); (first | unfold Go | skip); (first | ((try clear hN); refine seq_hide fun N hN => ?_) | skip); (try simp (config := { contextual := true, maxSteps := 1000000 }) only [rdH1, uRepr_0, HO.dK.injEq, rdD1, rdB1, rdA1, rdA2, rdA3, rdA4, rdA5, rdS1, rdS2, reduceIte, Nat.reduceSub, Nat.reduceAdd, String.reduceBEq, Int.reducePow, Int.reduceNeg, Int.reduceLT, Int.reduceLE, Int.reduceToNat, Int.reduceMul, Int.reduceAdd, Int.reduceSub, reduceCtorEq, Nat.reduceLeDiff, Nat.reducePow, Nat.reduceLT, Int.reduceAbs])
      exact q r xs H' sm (wl.mono (by omega)) rH er (by omega) hx
  (first | ((try clear hN); refine seq_hide fun N hN => ?_) | skip); (try simp (config := { contextual := true, maxSteps := 1000000 }) only [rdH1, uRepr_0, HO.dK.injEq, rdD1, rdB1, rdA1, rdA2, rdA3, rdA4, rdA5, rdS1, rdS2, reduceIte, Nat.reduceSub, Nat.reduceAdd, String.reduceBEq, Int.reducePow, Int.reduceNeg, Int.reduceLT, Int.reduceLE, Int.reduceToNat, Int.reduceMul, Int.reduceAdd, Int.reduceSub, reduceCtorEq, Nat.reduceLeDiff, Nat.reducePow, Nat.reduceLT, Int.reduceAbs])
  refine ite2 (fun _ => ite2 (fun h9 => ⟨by omega, by omega, ?_⟩) (fun _ => nx)) (fun _ => nx)
  refine comp_range (fun i ys H' => H1 = H' ∧ ∃ xs : List Str, ys = xs.map V.str ∧ xs.length = i ∧ ∀ x ∈ xs, NmOk 20 x) ⟨rfl, [], rfl, rfl, fun x hx => by cases hx⟩ (fun i ys H' hi ⟨_, xs, e, hl, _⟩ => by rw [e, List.length_map, hl]; exact small1 (by omega)) ?_ ?_
  · rintro i ys H' M hi ⟨rfl, xs, rfl, hl, hx⟩ nxt
    (first | ((try clear hN); refine seq_hide fun N hN => ?_) | skip); (try simp (config := { contextual := true, maxSteps := 1000000 }) only [rdH1, uRepr_0, HO.dK.injEq, rdD1, rdB1, rdA1, rdA2, rdA3, rdA4, rdA5, rdS1, rdS2, reduceIte, Nat.reduceSub, Nat.reduceAdd, String.reduceBEq, Int.reducePow, Int.reduceNeg, Int.reduceLT, Int.reduceLE, Int.reduceToNat, Int.reduceMul, Int.reduceAdd, Int.reduceSub, reduceCtorEq, Nat.reduceLeDiff, Nat.reducePow, Nat.reduceLT, Int.reduceAbs])
    refine ⟨by have := hb.1; omega, nxt _ _ ⟨rfl, xs ++ [Txt.slice bs none (some (0 + (i : Int) + 1))], strs_snoc, by rw [List.length_append, hl]; rfl, fun x hx' => ?_⟩⟩
    rcases List.mem_append.mp hx' with h | h
    · exact hx x h
    · rw [List.mem_singleton.mp h]; exact (slice_ok _ _ hb).mono (by decide)
  · rintro ys H' r ⟨rfl, xs, rfl, hl, hx⟩ hr'
    exact q r xs _ (s1.new hr' _) ((w1.new hr' _).mono (by omega)) (noneE s1 hr' (w1.notin hr')) upd_same (by omega) hx
theorem sc_law_bar_told : FnScope ["_law_well_here", "_law_plate", "_law_heavy", "_law_top", "_law_room", "_law_slack", "_law_more"] ["_law_well_here", "_law_plate", "_law_heavy"] (defScope s_law_bar_told) := ⟨rfl, rfl, rfl, by decide +kernel, rfl, by decide +kernel, by decide +kernel⟩
theorem ok_law_bar_told  {f : Addr} {fd : FuncData} (F : Fun K "_law_bar_told" "_law_bar_told" s_law_bar_told f fd)
    {f__law_draw : Addr} {d__law_draw : FuncData} (G__law_draw : FnOk P w K mg base CX0 1 f__law_draw d__law_draw ["_law_well_here", "_law_many"] spDraw) (b__law_draw : Binds K d__law_draw ["_law_well_here", "_law_many"] []) (k__law_draw : PySem.W.keepIn K (.ref f__law_draw) = true) (m__law_draw : mg "_law_draw" = some (.ref f__law_draw)) : FnOk P w K mg base CX0 2 f fd ["_law_well_here", "_law_plate", "_law_heavy"] spBarT := by
  refine F.ok sc_law_bar_told (fun vs H Q E h => ?_) (fun cdv A outer s H vs Q E hr h => ?_)
  · obtain ⟨a, n, pl, hv, rfl, hw, hn, p0, p1, h0, h1, q⟩ := h
    rfl
  obtain ⟨a, n, pl, hv, rfl, hw, hn, p0, p1, h0, h1, q⟩ := h
  refine ⟨_, (pss_cons (ps_set (i := 3) sc_law_bar_told.nd rfl (Or.inl rfl) (pe_op u_add pe_int (pe_call G__law_draw hr rfl m__law_draw k__law_draw b__law_draw .nil pass0 (pa_cons (pv 0) (pa_cons pe_int pa_nil)))))
    (pss_consM (ps_if (pt_cmpR (u_eq (n := 4) hr.units) (pe_call G__law_draw hr rfl m__law_draw k__law_draw b__law_draw .nil pass0 (pa_cons (pv 0) (pa_cons pe_int pa_nil))) pe_int (nomark _)) (pss_one (ps_set (i := 3) sc_law_bar_told.nd rfl (Or.inl rfl) pe_int)) pss_nil)
    (pss_cons (ps_set (i := 4) sc_law_bar_told.nd rfl (Or.inl rfl) (pe_call G__law_draw hr rfl m__law_draw k__law_draw b__law_draw .nil pass0 (pa_cons (pv 0) (pa_cons pe_int pa_nil))))
    (pss_consM (ps_if (pt_cmpR (u_eq (n := 4) hr.units) (pe_call G__law_draw hr rfl m__law_draw k__law_draw b__law_draw .nil pass0 (pa_cons (pv 0) (pa_cons pe_int pa_nil))) pe_int (nomark _)) (pss_one (ps_set (i := 4) sc_law_bar_told.nd rfl (Or.inl rfl) pe_int)) pss_nil)
    (pss_cons (ps_set (i := 5) sc_law_bar_told.nd rfl (Or.inl rfl) (pe_ix u_ix (pe_lst (pa_cons (pe_op op_fdivL (pv 1) pe_int) (pa_cons (pv 1) (pa_cons pe_int (pa_cons (pe_call G__law_draw hr rfl m__law_draw k__law_draw b__law_draw .nil pass0 (pa_cons (pv 0) (pa_cons (pe_op u_add (pe_op u_mul pe_int (pv 1)) pe_int) pa_nil))) pa_nil))))) (pe_call G__law_draw hr rfl m__law_draw k__law_draw b__law_draw .nil pass0 (pa_cons (pv 0) (pa_cons pe_int pa_nil))) (fun _ _ => rfl)))
    (pss_cons (ps_set (i := 6) sc_law_bar_told.nd rfl (Or.inl rfl) (pe_ix u_ix (pe_lst (pa_cons (pe_op u_add (pe_op u_mul pe_int (pv 2)) (pv 1)) (pa_cons (pe_op u_mul pe_int (pv 2)) (pa_cons pe_int (pa_cons (pe_op op_sub (pv 2) pe_int) pa_nil))))) (pe_call G__law_draw hr rfl m__law_draw k__law_draw b__law_draw .nil pass0 (pa_cons (pv 0) (pa_cons pe_int pa_nil))) (fun _ _ => rfl)))
    (pss_one (ps_ret (pe_tup (pa_cons (pv 3) (pa_cons (pe_call G__law_draw hr rfl m__law_draw k__law_draw b__law_draw .nil pass0 (pa_cons (pv 0) (pa_cons (pe_op u_add (pv 3) pe_int) pa_nil))) (pa_cons (pv 4) (pa_cons (pe_op u_add pe_int (pe_call G__law_draw hr rfl m__law_draw k__law_draw b__law_draw .nil pass0 (pa_cons (pv 0) (pa_cons pe_int pa_nil)))) (pa_cons (pv 5) (pa_cons (pe_op u_add (pv 5) (pv 6)) pa_nil))))))))))))))), ?_⟩
  (first | ((try clear hN); refine seq_hide fun N hN => ?_) | skip); (try simp (config := { contextual := true, maxSteps := 1000000 }) only [rdH1, uRepr_0, HO.dK.injEq, rdD1, rdB1, rdA1, rdA2, rdA3, rdA4, rdA5, rdS1, rdS2, reduceIte, Nat.reduceSub, Nat.reduceAdd, String.reduceBEq, Int.reducePow, Int.reduceNeg, Int.reduceLT, Int.reduceLE, Int.reduceToNat, Int.reduceMul, Int.reduceAdd, Int.reduceSub, reduceCtorEq, Nat.reduceLeDiff, Nat.reducePow, Nat.reduceLT, Int.reduceAbs])
  refine ⟨a, 12, n, rfl, hw, by omega, by decide, by decide, fun v1 H1 v10 v11 s1 w1 => ?_⟩
  (first | ((try clear hN); refine seq_hide fun N hN => ?_) | skip); (try simp (config := { contextual := true, maxSteps := 1000000 }) only [rdH1, uRepr_0, HO.dK.injEq, rdD1, rdB1, rdA1, rdA2, rdA3, rdA4, rdA5, rdS1, rdS2, reduceIte, Nat.reduceSub, Nat.reduceAdd, String.reduceBEq, Int.reducePow, Int.reduceNeg, Int.reduceLT, Int.reduceLE, Int.reduceToNat, Int.reduceMul, Int.reduceAdd, Int.reduceSub, reduceCtorEq, Nat.reduceLeDiff, Nat.reducePow, Nat.reduceLT, Int.reduceAbs])
  refine hN _ _ ?_
  unfold Go
  refine seqM_hide (fun σ' H' => ∃ t : Int, 0 < t ∧ t ≤ 60 ∧ σ' = [some (.ref a), some (.int pl), some (.int hv), some (.int t), none, none, none] ∧ SameE [a] H H' ∧ Wl H' a (n + 2)) ?_ ?_
  · (first | ((try clear hN); refine seq_hide fun N hN => ?_) | skip); (try simp (config := { contextual := true, maxSteps := 1000000 }) only [rdH1, uRepr_0, HO.dK.injEq, rdD1, rdB1, rdA1, rdA2, rdA3, rdA4, rdA5, rdS1, rdS2, reduceIte, Nat.reduceSub, Nat.reduceAdd, String.reduceBEq, Int.reducePow, Int.reduceNeg, Int.reduceLT, Int.reduceLE, Int.reduceToNat, Int.reduceMul, Int.reduceAdd, Int.reduceSub, reduceCtorEq, Nat.reduceLeDiff, Nat.reducePow, Nat.reduceLT, Int.reduceAbs])
    refine ⟨a, 9, n + 1, rfl, w1, by omega, by decide, by decide, fun v2 H2 v20 v21 s2 w2 => ?_⟩
    (first | ((try clear hN); refine seq_hide fun N hN => ?_) | skip); (try simp (config := { contextual := true, maxSteps := 1000000 }) only [rdH1, uRepr_0, HO.dK.injEq, rdD1, rdB1, rdA1, rdA2, rdA3, rdA4, rdA5, rdS1, rdS2, reduceIte, Nat.reduceSub, Nat.reduceAdd, String.reduceBEq, Int.reducePow, Int.reduceNeg, Int.reduceLT, Int.reduceLE, Int.reduceToNat, Int.reduceMul, Int.reduceAdd, Int.reduceSub, reduceCtorEq, Nat.reduceLeDiff, Nat.reducePow, Nat.reduceLT, Int.reduceAbs])
    exact ite2 (fun _ => ⟨60, by decide, by decide, rfl, s1.trans s2, w2.mono (by omega)⟩) (fun _ => ⟨_, by omega, by omega, rfl, s1.trans s2, w2.mono (by omega)⟩)
  · rintro σ' H2 ⟨t, t0, t1, rfl, s2, w2⟩
    (first | refine hN _ _ ?_ | skip); (first | unfold Go | skip); (first | ((try clear hN); refine seq_hide fun N hN => ?_) | skip); (try simp (config := { contextual := true, maxSteps := 1000000 }) only [rdH1, uRepr_0, HO.dK.injEq, rdD1, rdB1, rdA1, rdA2, rdA3, rdA4, rdA5, rdS1, rdS2, reduceIte, Nat.reduceSub, Nat.reduceAdd, String.reduceBEq, Int.reducePow, Int.reduceNeg, Int.reduceLT, Int.reduceLE, Int.reduceToNat, Int.reduceMul, Int.reduceAdd, Int.reduceSub, reduceCtorEq, Nat.reduceLeDiff, Nat.reducePow, Nat.reduceLT, Int.reduceAbs])
    refine ⟨a, 13, n + 2, rfl, w2, by omega, by decide, by decide, fun v3 H3 v30 v31 s3 w3 => ?_⟩
    refine hN _ _ ?_
    unfold Go
    refine seqM_hide (fun σ' H' => ∃ t2 : Int, σ' = [some (.ref a), some (.int pl), some (.int hv), some (.int t), some (.int t2), none, none] ∧ SameE [a] H H' ∧ Wl H' a (n + 4)) ?_ ?_
    · (first | ((try clear hN); refine seq_hide fun N hN => ?_) | skip); (try simp (config := { contextual := true, maxSteps := 1000000 }) only [rdH1, uRepr_0, HO.dK.injEq, rdD1, rdB1, rdA1, rdA2, rdA3, rdA4, rdA5, rdS1, rdS2, reduceIte, Nat.reduceSub, Nat.reduceAdd, String.reduceBEq, Int.reducePow, Int.reduceNeg, Int.reduceLT, Int.reduceLE, Int.reduceToNat, Int.reduceMul, Int.reduceAdd, Int.reduceSub, reduceCtorEq, Nat.reduceLeDiff, Nat.reducePow, Nat.reduceLT, Int.reduceAbs])
      refine ⟨a, 9, n + 3, rfl, w3.mono (by omega), by omega, by decide, by decide, fun v2 H2 v20 v21 s4 w4 => ?_⟩
      (first | ((try clear hN); refine seq_hide fun N hN => ?_) | skip); (try simp (config := { contextual := true, maxSteps := 1000000 }) only [rdH1, uRepr_0, HO.dK.injEq, rdD1, rdB1, rdA1, rdA2, rdA3, rdA4, rdA5, rdS1, rdS2, reduceIte, Nat.reduceSub, Nat.reduceAdd, String.reduceBEq, Int.reducePow, Int.reduceNeg, Int.reduceLT, Int.reduceLE, Int.reduceToNat, Int.reduceMul, Int.reduceAdd, Int.reduceSub, reduceCtorEq, Nat.reduceLeDiff, Nat.reducePow, Nat.reduceLT, Int.reduceAbs])
      exact ite2 (fun _ => ⟨s2.trans (s3.trans s4), w4.mono (by omega)⟩) (fun _ => ⟨s2.trans (s3.trans s4), w4.mono (by omega)⟩)
    · rintro σ' H4 ⟨t2, rfl, s4, w4⟩
      (first | refine hN _ _ ?_ | skip); (first | unfold Go | skip); (first | ((try clear hN); refine seq_hide fun N hN => ?_) | skip); (try simp (config := { contextual := true, maxSteps := 1000000 }) only [rdH1, uRepr_0, HO.dK.injEq, rdD1, rdB1, rdA1, rdA2, rdA3, rdA4, rdA5, rdS1, rdS2, reduceIte, Nat.reduceSub, Nat.reduceAdd, String.reduceBEq, Int.reducePow, Int.reduceNeg, Int.reduceLT, Int.reduceLE, Int.reduceToNat, Int.reduceMul, Int.reduceAdd, Int.reduceSub, reduceCtorEq, Nat.reduceLeDiff, Nat.reducePow, Nat.reduceLT, Int.reduceAbs])
      refine ⟨by decide +kernel, a, _, n + 4, rfl, w4, by omega, by omega, by unfold big60; omega, fun v5 H5 v50 v51 s5 w5 => ?_⟩
      intro l1 hl1
      have s6 := (s4.trans s5).new hl1 (.lst [V.int (pl / 2), V.int pl, V.int 0, V.int v5])
      have w6 := w5.new hl1 (.lst [V.int (pl / 2), V.int pl, V.int 0, V.int v5])
      have e6 : (upd H5 l1 (.lst [V.int (pl / 2), V.int pl, V.int 0, V.int v5])) l1 = _ := upd_same
      generalize upd H5 l1 (.lst [V.int (pl / 2), V.int pl, V.int 0, V.int v5]) = H6 at s6 w6 e6 ⊢
      refine ⟨a, 4, _, rfl, w6, by omega, by decide, by decide, fun v7 H7 v70 v71 s7 w7 => ?_⟩
      have e7 := s7.lst w6.dky e6
      obtain ⟨x7, ex7, _⟩ := at4 (pl / 2) pl 0 v5 v7 v70 v71
      refine ⟨_, by rw [e7]; rfl, _, rfl, _, ex7, ?_⟩
      (first | refine hN _ _ ?_ | skip); (first | unfold Go | skip); (first | ((try clear hN); refine seq_hide fun N hN => ?_) | skip); (try simp (config := { contextual := true, maxSteps := 1000000 }) only [rdH1, uRepr_0, HO.dK.injEq, rdD1, rdB1, rdA1, rdA2, rdA3, rdA4, rdA5, rdS1, rdS2, reduceIte, Nat.reduceSub, Nat.reduceAdd, String.reduceBEq, Int.reducePow, Int.reduceNeg, Int.reduceLT, Int.reduceLE, Int.reduceToNat, Int.reduceMul, Int.reduceAdd, Int.reduceSub, reduceCtorEq, Nat.reduceLeDiff, Nat.reducePow, Nat.reduceLT, Int.reduceAbs])
      intro l2 hl2
      have s8 := (s6.trans s7).new hl2 (.lst [V.int (2 * hv + pl), V.int (9 * hv), V.int 0, V.int (hv - 1)])
      have w8 := w7.new hl2 (.lst [V.int (2 * hv + pl), V.int (9 * hv), V.int 0, V.int (hv - 1)])
      have e8 : (upd H7 l2 (.lst [V.int (2 * hv + pl), V.int (9 * hv), V.int 0, V.int (hv - 1)])) l2 = _ := upd_same
      generalize upd H7 l2 (.lst [V.int (2 * hv + pl), V.int (9 * hv), V.int 0, V.int (hv - 1)]) = H8 at s8 w8 e8 ⊢
      refine ⟨a, 4, _, rfl, w8, by omega, by decide, by decide, fun v9 H9 v90 v91 s9 w9 => ?_⟩
      have e9 := s9.lst w8.dky e8
      obtain ⟨x9, ex9, _⟩ := at4 (2 * hv + pl) (9 * hv) 0 (hv - 1) v9 v90 v91
      refine ⟨_, by rw [e9]; rfl, _, rfl, _, ex9, ?_⟩
      (first | refine hN _ _ ?_ | skip); (first | unfold Go | skip); (first | ((try clear hN); refine seq_hide fun N hN => ?_) | skip); (try simp (config := { contextual := true, maxSteps := 1000000 }) only [rdH1, uRepr_0, HO.dK.injEq, rdD1, rdB1, rdA1, rdA2, rdA3, rdA4, rdA5, rdS1, rdS2, reduceIte, Nat.reduceSub, Nat.reduceAdd, String.reduceBEq, Int.reducePow, Int.reduceNeg, Int.reduceLT, Int.reduceLE, Int.reduceToNat, Int.reduceMul, Int.reduceAdd, Int.reduceSub, reduceCtorEq, Nat.reduceLeDiff, Nat.reducePow, Nat.reduceLT, Int.reduceAbs])
      refine ⟨a, _, _, rfl, w9, by omega, by omega, by unfold big60; omega, fun v10 HA v100 v101 sA wA => ?_⟩
      refine ⟨a, 2, _, rfl, wA, by omega, by decide, by decide, fun v11 HB v110 v111 sB wB => ?_⟩
      (first | ((try clear hN); refine seq_hide fun N hN => ?_) | skip); (try simp (config := { contextual := true, maxSteps := 1000000 }) only [rdH1, uRepr_0, HO.dK.injEq, rdD1, rdB1, rdA1, rdA2, rdA3, rdA4, rdA5, rdS1, rdS2, reduceIte, Nat.reduceSub, Nat.reduceAdd, String.reduceBEq, Int.reducePow, Int.reduceNeg, Int.reduceLT, Int.reduceLE, Int.reduceToNat, Int.reduceMul, Int.reduceAdd, Int.reduceSub, reduceCtorEq, Nat.reduceLeDiff, Nat.reducePow, Nat.reduceLT, Int.reduceAbs])
      intro p hp
      have sE := (s8.trans s9).trans (sA.trans sB)
      exact q p _ _ _ _ _ _ _ (sE.new hp _) ((wB.new hp _).mono (by omega)) (noneE sE hp (wB.notin hp)) upd_same
theorem sc_law_bay_told : FnScope ["_law_well_here", "_law_house_here", "_law_some", "_law_name"] ["_law_well_here", "_law_house_here"] (defScope s_law_bay_told) := ⟨rfl, rfl, rfl, by decide +kernel, rfl, by decide +kernel, by decide +kernel⟩
theorem ok_law_bay_told  {f : Addr} {fd : FuncData} (F : Fun K "_law_bay_told" "_law_bay_told" s_law_bay_told f fd)
    {f__law_draw : Addr} {d__law_draw : FuncData} (G__law_draw : FnOk P w K mg base CX0 1 f__law_draw d__law_draw ["_law_well_here", "_law_many"] spDraw) (b__law_draw : Binds K d__law_draw ["_law_well_here", "_law_many"] []) (k__law_draw : PySem.W.keepIn K (.ref f__law_draw) = true) (m__law_draw : mg "_law_draw" = some (.ref f__law_draw)) (LK : LamK K mg base fd.code PT) (m_sorted : mg "sorted" = none) : FnOk P w K mg base CX0 2 f fd ["_law_well_here", "_law_house_here"] (spBay PT) := by
  refine F.okC sc_law_bay_told (fun vs H Q E h => ?_) (fun cdv A outer s H vs Q E hcode hr h => ?_)
  · obtain ⟨a, n, hs, bb, db, kvs1, kvs2, xs, rfl, hw, hn, hB, h8, na1, na2, ht, q⟩ := h
    rfl
  obtain ⟨a, n, hs, bb, db, kvs1, kvs2, xs, rfl, hw, hn, hB, h8, na1, na2, ht, q⟩ := h
  refine ⟨_, (pss_cons (ps_set (i := 2) sc_law_bay_told.nd rfl (Or.inl rfl) (pe_lst pa_nil))
    (pss_cons (ps_for PassesOwn.never rfl (pi_list (pe_sortL (jx := 1) (n := 1) (show (A.deeper _).depth + 4 < recursionLimit from by have := hr.dp; omega) rfl m_sorted (pa_cons (pe_dgU (hu_of hr) (pv 1) pe_str (fun _ _ => rfl)) pa_nil) (hcode ▸ LK) rfl rfl rfl rfl rfl (by decide) rfl rfl rfl rfl (fun _ _ _ _ _ => rfl))) (pg_name (i := 3) sc_law_bay_told.nd rfl (Or.inl rfl)) (pss_one (ps_if (pt_cmpR op_gt (pe_call G__law_draw hr rfl m__law_draw k__law_draw b__law_draw .nil pass0 (pa_cons (pv 0) (pa_cons pe_int pa_nil))) pe_int (nomark _)) (pss_one (ps_if (PW.pt (pw_or (pt_cmpR (u_eq (n := 4) hr.units) (pv 2) (pe_lst pa_nil) (nomark _)) (pw_or1 (pt_cmpR op_lt (pe_ix u_ix (pe_dgU (hu_of hr) (pe_dgU (hu_of hr) (pv 1) pe_str (fun _ _ => rfl)) (pe_ix u_ix (pv 2) (pe_un un_neg pe_int) (fun _ _ => rfl)) (fun _ _ => rfl)) pe_int (fun _ _ => rfl)) (pe_ix u_ix (pe_dgU (hu_of hr) (pe_dgU (hu_of hr) (pv 1) pe_str (fun _ _ => rfl)) (pv 3) (fun _ _ => rfl)) pe_int (fun _ _ => rfl)) (nomark _))))) (pss_one (ps_expr (pe_bm PySem.F.plainAttrs_list PySem.F.slot_list_append PySem.F.type_list_append u_app (pv 2) (pa_cons (pv 3) pa_nil)))) pss_nil)) pss_nil)))
    (pss_one (ps_ret (pv 2))))), ?_⟩
  (first | ((try clear hN); refine seq_hide fun N hN => ?_) | skip); (try simp (config := { contextual := true, maxSteps := 1000000 }) only [rdH1, uRepr_0, HO.dK.injEq, rdD1, rdB1, rdA1, rdA2, rdA3, rdA4, rdA5, rdS1, rdS2, reduceIte, Nat.reduceSub, Nat.reduceAdd, String.reduceBEq, Int.reducePow, Int.reduceNeg, Int.reduceLT, Int.reduceLE, Int.reduceToNat, Int.reduceMul, Int.reduceAdd, Int.reduceSub, reduceCtorEq, Nat.reduceLeDiff, Nat.reducePow, Nat.reduceLT, Int.reduceAbs])
  intro r0 hr0
  have hw1 := hw.new hr0 (.lst [])
  have hB1 := hB.new hr0 (.lst [])
  have ht1 := ltNew ht hr0 (.lst [])
  have e0 : (upd H r0 (.lst [])) r0 = some (.lst (([] : List Str).map V.str)) := upd_same
  have s0 : SameE [a, PT] H (upd H r0 (.lst [])) := SameE.refl.new hr0 _
  (first | refine hN _ _ ?_ | skip); (first | unfold Go | skip); (first | ((try clear hN); refine seq_hide fun N hN => ?_) | skip); (try simp (config := { contextual := true, maxSteps := 1000000 }) only [rdH1, uRepr_0, HO.dK.injEq, rdD1, rdB1, rdA1, rdA2, rdA3, rdA4, rdA5, rdS1, rdS2, reduceIte, Nat.reduceSub, Nat.reduceAdd, String.reduceBEq, Int.reducePow, Int.reduceNeg, Int.reduceLT, Int.reduceLE, Int.reduceToNat, Int.reduceMul, Int.reduceAdd, Int.reduceSub, reduceCtorEq, Nat.reduceLeDiff, Nat.reducePow, Nat.reduceLT, Int.reduceAbs])
  generalize upd H r0 (.lst []) = H1 at hw1 hB1 ht1 e0 s0 ⊢
  obtain ⟨g1, g2, g3, g4, g5, g6⟩ := id hB1
  refine ⟨_, g1, _, g2, bb, hs, db, xs, kvs1, kvs2, rfl, g4, by omega, rfl, g1, g3, g5, g6, ht1, fun r ys H2 hy hl s2 hr2 er ht2 => ?_⟩
  have hsP := lamD ht1 g1
  have dbP := lamD ht1 g5
  have wP : a ≠ PT := let ⟨_, _, _, z, _⟩ := hw1; lamD ht1 z
  have hw2 : Wl H2 a n := let ⟨c, d, t, z, z2⟩ := hw1; ⟨c, d, t, s2 _ _ z wP, z2⟩
  have hB2 : BarsAt H2 hs bb db kvs1 kvs2 xs := hB1.keep (es := [PT]) (fun b o e n => s2 b o e (by simpa using n)) (by simpa using hsP) (by simpa using dbP) (fun e z => by
    obtain rfl : e = PT := by simpa using z
    obtain ⟨ps, z, _⟩ := ht1
    rw [z]; trivial)
  have er0 := s2 _ _ e0 (lamL ht1 e0)
  have sP : SameE [a, PT] H H2 := s0.trans (SameE.ofP s2)
  refine ⟨r, rfl, ⟨_, .inl (.inl er)⟩, ?_⟩
  have rr0 : r ≠ r0 := fun z => by subst z; rw [e0] at hr2; cases hr2
  refine loop_list (xs := ys.map V.str) (fun i σ H' => ∃ (zs : List Str) (v3 : Option V), σ = [some (.ref a), some (.ref hs), some (.ref r0), v3] ∧ SameE [a, PT] H H' ∧ Wl H' a (n + i) ∧ LamT PT lamPos lamQ H' ∧ BarsAt H' hs bb db kvs1 kvs2 xs ∧ H' r0 = some (.lst (zs.map V.str)) ∧ zs.length ≤ i ∧ (∀ z ∈ zs, z ∈ xs) ∧ H' r = some (.lst (ys.map V.str))) ⟨[], none, rfl, sP, hw2.mono (by omega), ht2, hB2, er0, Nat.le_refl _, (fun z hz => by cases hz), er⟩ (fun i σ H' _ ⟨zs, v3, _, _, _, _, _, _, _, _, z⟩ => z) ?_ ?_
  · rintro i x σ H' hx ⟨zs, v3, rfl, s3, w3, t3, b3, r3, l3, z3, o3⟩
    obtain ⟨y, ey, rfl⟩ : ∃ y, ys[i]? = some y ∧ x = .str y := by
      rw [List.getElem?_map] at hx
      cases q : ys[i]? with
      | none => rw [q] at hx; cases hx
      | some y => rw [q] at hx; exact ⟨y, rfl, (Option.some.inj hx).symm⟩
    have hi : i < ys.length := (List.getElem?_eq_some_iff.mp ey).1
    have yx := hy y (List.mem_of_getElem? ey)
    (first | ((try clear hN); refine seq_hide fun N hN => ?_) | skip); (try simp (config := { contextual := true, maxSteps := 1000000 }) only [rdH1, uRepr_0, HO.dK.injEq, rdD1, rdB1, rdA1, rdA2, rdA3, rdA4, rdA5, rdS1, rdS2, reduceIte, Nat.reduceSub, Nat.reduceAdd, String.reduceBEq, Int.reducePow, Int.reduceNeg, Int.reduceLT, Int.reduceLE, Int.reduceToNat, Int.reduceMul, Int.reduceAdd, Int.reduceSub, reduceCtorEq, Nat.reduceLeDiff, Nat.reducePow, Nat.reduceLT, Int.reduceAbs])
    refine ⟨a, 3, n + i, rfl, w3, by omega, by decide, by decide, fun v H4 v0 v1 s4 w4 => ?_⟩
    have s5 := s3.trans s4.wide
    have t4 := ltW t3 w3 s4
    have b4 := b3.keep s4 (by simpa using na1) (by simpa using na2) w3.dky
    have r4 := s4.lst w3.dky r3
    have o4 := s4.lst w3.dky o3
    (first | ((try clear hN); refine seq_hide fun N hN => ?_) | skip); (try simp (config := { contextual := true, maxSteps := 1000000 }) only [rdH1, uRepr_0, HO.dK.injEq, rdD1, rdB1, rdA1, rdA2, rdA3, rdA4, rdA5, rdS1, rdS2, reduceIte, Nat.reduceSub, Nat.reduceAdd, String.reduceBEq, Int.reducePow, Int.reduceNeg, Int.reduceLT, Int.reduceLE, Int.reduceToNat, Int.reduceMul, Int.reduceAdd, Int.reduceSub, reduceCtorEq, Nat.reduceLeDiff, Nat.reducePow, Nat.reduceLT, Int.reduceAbs])
    refine ite2 (fun _ => ?_) (fun _ => ⟨s5, w4.mono (by omega), t4, b4, zs, r4, by omega, z3, o4⟩)
    intro p hp
    have s6 := s5.new hp (.lst [])
    have w6 := w4.new hp (.lst [])
    have t6 := ltNew t4 hp (.lst [])
    have b6 := b4.new hp (.lst [])
    have r6 := same_new hp (.lst []) _ _ r4
    have o6 := same_new hp (.lst []) _ _ o4
    have p6 : (upd H4 p (.lst [])) p = some (.lst []) := upd_same
    generalize upd H4 p (.lst []) = H6 at s6 w6 t6 b6 r6 o6 p6 ⊢
    obtain ⟨g1, g2, g3, g4, g5, g6⟩ := id b6
    have nb : bb ≠ r0 := ne_of_none hB.2.2.2.1 hr0
    have sA := s6.put hr0 (.lst (zs.map V.str ++ [V.str y]))
    have wA := (w6.put (w6.ne r6) (.lst (zs.map V.str ++ [V.str y]))).mono (m := n + ((i + 1 : Nat) : Int)) (by omega)
    have tA := ltL t6 r6 (.lst (zs.map V.str ++ [V.str y]))
    have bA := b6.putL r6 nb (.lst (zs.map V.str ++ [V.str y]))
    have oA : (upd H6 r0 (.lst (zs.map V.str ++ [V.str y]))) r = some (.lst (ys.map V.str)) := by rw [upd_ne rr0]; exact o6
    refine ⟨_, eqT_nil r6 p6, ?_⟩
    obtain ⟨tp, us, x1, q1, q2, q3⟩ := g6 y yx
    refine ite2 (fun _ => ⟨tyV_lst r6, _, r6, by rw [List.length_map]; omega, sA, wA, tA, bA, zs ++ [y], strs_snoc, by rw [List.length_append]; show zs.length + 1 ≤ _; omega, fun z hz => (List.mem_append.mp hz).elim (z3 z) fun h => by rw [List.mem_singleton.mp h]; exact yx, oA⟩) (fun hz => ?_)
    obtain ⟨z, hz1, hz2⟩ := at_last (zs := zs) (fun e => hz (by rw [e]; rfl))
    obtain ⟨tp', us', x', q1', q2', q3'⟩ := g6 z (z3 z hz1)
    refine ⟨_, g1, _, g3, _, by rw [r6]; rfl, _, hz2, ?_⟩
    (first | ((try clear hN); refine seq_hide fun N hN => ?_) | skip); (try simp (config := { contextual := true, maxSteps := 1000000 }) only [rdH1, uRepr_0, HO.dK.injEq, rdD1, rdB1, rdA1, rdA2, rdA3, rdA4, rdA5, rdS1, rdS2, reduceIte, Nat.reduceSub, Nat.reduceAdd, String.reduceBEq, Int.reducePow, Int.reduceNeg, Int.reduceLT, Int.reduceLE, Int.reduceToNat, Int.reduceMul, Int.reduceAdd, Int.reduceSub, reduceCtorEq, Nat.reduceLeDiff, Nat.reducePow, Nat.reduceLT, Int.reduceAbs, g5, q1', q2', g1, g3, q1, q2])
    refine ⟨_, atI_nat (j := 1) q3', _, atI_nat (j := 1) q3, ?_⟩
    (first | ((try clear hN); refine seq_hide fun N hN => ?_) | skip); (try simp (config := { contextual := true, maxSteps := 1000000 }) only [rdH1, uRepr_0, HO.dK.injEq, rdD1, rdB1, rdA1, rdA2, rdA3, rdA4, rdA5, rdS1, rdS2, reduceIte, Nat.reduceSub, Nat.reduceAdd, String.reduceBEq, Int.reducePow, Int.reduceNeg, Int.reduceLT, Int.reduceLE, Int.reduceToNat, Int.reduceMul, Int.reduceAdd, Int.reduceSub, reduceCtorEq, Nat.reduceLeDiff, Nat.reducePow, Nat.reduceLT, Int.reduceAbs])
    exact ite2 (fun _ => ⟨tyV_lst r6, _, r6, by rw [List.length_map]; omega, sA, wA, tA, bA, zs ++ [y], strs_snoc, by rw [List.length_append]; show zs.length + 1 ≤ _; omega, fun z hz => (List.mem_append.mp hz).elim (z3 z) fun h => by rw [List.mem_singleton.mp h]; exact yx, oA⟩) (fun _ => ⟨s6, w6.mono (by omega), t6, b6, zs, r6, by omega, z3, o6⟩)
  · rintro σ H' ⟨zs, v3, rfl, s3, w3, t3, b3, r3, l3, z3, o3⟩
    (first | refine hN _ _ ?_ | skip); (first | unfold Go | skip); (first | ((try clear hN); refine seq_hide fun N hN => ?_) | skip); (try simp (config := { contextual := true, maxSteps := 1000000 }) only [rdH1, uRepr_0, HO.dK.injEq, rdD1, rdB1, rdA1, rdA2, rdA3, rdA4, rdA5, rdS1, rdS2, reduceIte, Nat.reduceSub, Nat.reduceAdd, String.reduceBEq, Int.reducePow, Int.reduceNeg, Int.reduceLT, Int.reduceLE, Int.reduceToNat, Int.reduceMul, Int.reduceAdd, Int.reduceSub, reduceCtorEq, Nat.reduceLeDiff, Nat.reducePow, Nat.reduceLT, Int.reduceAbs])
    exact q r0 zs H' s3 (w3.mono (by rw [List.length_map]; omega)) t3 hr0 r3
theorem sc_law_house : FnScope ["_law_well_here", "_law_base", "_law_great", "_law_scale", "_law_plate", "_law_house_here", "_law_many", "_law_name", "_law_some", "_law_drop", "_law_k", "_law_bay"] ["_law_well_here"] (defScope s_law_house) := ⟨rfl, rfl, rfl, by decide +kernel, rfl, by decide +kernel, by decide +kernel⟩
theorem ndc_law_house0 : (["_law_k", "_law_well_here"] : List Str).Nodup := by decide +kernel
theorem ok_law_house  {f : Addr} {fd : FuncData} (F : Fun K "_law_house" "_law_house" s_law_house f fd)
    {f__law_draw : Addr} {d__law_draw : FuncData} (G__law_draw : FnOk P w K mg base CX0 2 f__law_draw d__law_draw ["_law_well_here", "_law_many"] spDraw) (b__law_draw : Binds K d__law_draw ["_law_well_here", "_law_many"] []) (k__law_draw : PySem.W.keepIn K (.ref f__law_draw) = true) (m__law_draw : mg "_law_draw" = some (.ref f__law_draw))
    {f__law_bay_told : Addr} {d__law_bay_told : FuncData} (G__law_bay_told : FnOk P w K mg base CX0 2 f__law_bay_told d__law_bay_told ["_law_well_here", "_law_house_here"] (spBay PT)) (b__law_bay_told : Binds K d__law_bay_told ["_law_well_here", "_law_house_here"] []) (k__law_bay_told : PySem.W.keepIn K (.ref f__law_bay_told) = true) (m__law_bay_told : mg "_law_bay_told" = some (.ref f__law_bay_told))
    {f__law_names : Addr} {d__law_names : FuncData} (G__law_names : FnOk P w K mg base CX0 2 f__law_names d__law_names ["_law_well_here", "_law_many", "_law_base"] spNames) (b__law_names : Binds K d__law_names ["_law_well_here", "_law_many", "_law_base"] []) (k__law_names : PySem.W.keepIn K (.ref f__law_names) = true) (m__law_names : mg "_law_names" = some (.ref f__law_names))
    {f__law_bar_told : Addr} {d__law_bar_told : FuncData} (G__law_bar_told : FnOk P w K mg base CX0 2 f__law_bar_told d__law_bar_told ["_law_well_here", "_law_plate", "_law_heavy"] spBarT) (b__law_bar_told : Binds K d__law_bar_told ["_law_well_here", "_law_plate", "_law_heavy"] []) (k__law_bar_told : PySem.W.keepIn K (.ref f__law_bar_told) = true) (m__law_bar_told : mg "_law_bar_told" = some (.ref f__law_bar_told)) (m_range : mg "range" = none) (m_len : mg "len" = none) (m_int : mg "int" = none) : FnOk P w K mg base CX0 3 f fd ["_law_well_here"] (spHouse PT) := by
  refine F.ok sc_law_house (fun vs H Q E h => ?_) (fun cdv A outer s H vs Q E hr h => ?_)
  · obtain ⟨a, rfl, hw, ht, q⟩ := h
    rfl
  obtain ⟨a, rfl, hw, ht, q⟩ := h
  refine ⟨_, (pss_cons (ps_set (i := 1) sc_law_house.nd rfl (Or.inl rfl) (pe_bm PySem.F.plainAttrs_str PySem.F.slot_str_join PySem.F.type_str_join mt_join pe_str (pa_cons (pe_comp (own := ["_law_k"]) (capn := ["_law_well_here"]) (caps := [0]) rfl ⟨rfl, by decide +kernel, by decide +kernel, (by show ∀ y : Str × NameKind, y ∈ _ → y.2 = NameKind.free → (defScope s_law_house).names.lookup y.1 = some .cell ∨ (defScope s_law_house).names.lookup y.1 = some .free; decide +kernel), by decide +kernel, rfl⟩ (pi_range1 rfl m_range (pa_cons pe_int pa_nil)) (fun _ _ _ _ _ => (pg_name (i := 0) ndc_law_house0 rfl (Or.inl rfl))) (fun _ _ _ _ _ => pts_nil) (fun _ _ _ _ _ => (pe_ix u_ix pe_str (pe_call G__law_draw hr rfl m__law_draw k__law_draw b__law_draw .nil pass0 (pa_cons (pv 1) (pa_cons pe_int pa_nil))) (fun _ _ => rfl)))) pa_nil)))
    (pss_cons (ps_set (i := 2) sc_law_house.nd rfl (Or.inl rfl) (pe_op u_add pe_int (pe_op u_mul (pe_call G__law_draw hr rfl m__law_draw k__law_draw b__law_draw .nil pass0 (pa_cons (pv 0) (pa_cons (pe_op op_pow pe_int pe_int) pa_nil))) (pe_call G__law_draw hr rfl m__law_draw k__law_draw b__law_draw .nil pass0 (pa_cons (pv 0) (pa_cons (pe_op u_mul pe_int (pe_op op_pow pe_int pe_int)) pa_nil))))))
    (pss_cons (ps_set (i := 3) sc_law_house.nd rfl (Or.inl rfl) (pe_ix u_ix (pe_lst (pa_cons pe_int (pa_cons (pe_op u_add pe_int (pe_call G__law_draw hr rfl m__law_draw k__law_draw b__law_draw .nil pass0 (pa_cons (pv 0) (pa_cons pe_int pa_nil)))) (pa_cons (pv 2) pa_nil)))) (pe_call G__law_draw hr rfl m__law_draw k__law_draw b__law_draw .nil pass0 (pa_cons (pv 0) (pa_cons pe_int pa_nil))) (fun _ _ => rfl)))
    (pss_cons (ps_set (i := 4) sc_law_house.nd rfl (Or.inl rfl) (pe_op u_mul (pe_op u_add pe_int (pe_call G__law_draw hr rfl m__law_draw k__law_draw b__law_draw .nil pass0 (pa_cons (pv 0) (pa_cons pe_int pa_nil)))) (pv 3)))
    (pss_cons (ps_set (i := 5) sc_law_house.nd rfl (Or.inl rfl) (pe_disp (pps_cons pe_str (pv 4) (pps_cons pe_str pe_dnewK (pps_cons pe_str pe_dnewK (pps_cons pe_str (pe_lst pa_nil) pps_nil)))) rfl rfl (by simp) (by decide)))
    (pss_cons (ps_set (i := 6) sc_law_house.nd rfl (Or.inl rfl) (pe_ix u_ix (pe_lst (pa_cons (pe_op u_add pe_int (pe_call G__law_draw hr rfl m__law_draw k__law_draw b__law_draw .nil pass0 (pa_cons (pv 0) (pa_cons pe_int pa_nil)))) (pa_cons (pe_op u_add pe_int (pe_call G__law_draw hr rfl m__law_draw k__law_draw b__law_draw .nil pass0 (pa_cons (pv 0) (pa_cons pe_int pa_nil)))) pa_nil))) (pe_callTy u_int rfl m_int PyProof.Rows.boot_int (pa_cons (pe_cmpR (u_eq (n := 4) hr.units) (pe_call G__law_draw hr rfl m__law_draw k__law_draw b__law_draw .nil pass0 (pa_cons (pv 0) (pa_cons pe_int pa_nil))) pe_int (nomark _)) pa_nil)) (fun _ _ => rfl)))
    (pss_cons (ps_asg (pe_call G__law_names hr rfl m__law_names k__law_names b__law_names .nil pass0 (pa_cons (pv 0) (pa_cons (pv 6) (pa_cons (pv 1) pa_nil)))) (pg_sub (pv 5) pe_str (u_setD (hu_of hr))))
    (pss_cons (ps_for PassesOwn.never rfl (pi_list (pe_dgU (hu_of hr) (pv 5) pe_str (fun _ _ => rfl))) (pg_name (i := 7) sc_law_house.nd rfl (Or.inl rfl)) (pss_one (ps_asg (pe_call G__law_bar_told hr rfl m__law_bar_told k__law_bar_told b__law_bar_told .nil pass0 (pa_cons (pv 0) (pa_cons (pv 4) (pa_cons (pe_op u_mul pe_int (pv 3)) pa_nil)))) (pg_sub (pe_dgU (hu_of hr) (pv 5) pe_str (fun _ _ => rfl)) (pv 7) (u_setD (hu_of hr))))))
    (pss_cons (ps_set (i := 8) sc_law_house.nd rfl (Or.inl rfl) (pe_ix u_ix (pe_lst (pa_cons (pe_call G__law_draw hr rfl m__law_draw k__law_draw b__law_draw .nil pass0 (pa_cons (pv 0) (pa_cons pe_int pa_nil))) (pa_cons (pe_op u_add pe_int (pe_call G__law_draw hr rfl m__law_draw k__law_draw b__law_draw .nil pass0 (pa_cons (pv 0) (pa_cons pe_int pa_nil)))) pa_nil))) (pe_callTy u_int rfl m_int PyProof.Rows.boot_int (pa_cons (pe_cmpR (u_eq (n := 4) hr.units) (pe_call G__law_draw hr rfl m__law_draw k__law_draw b__law_draw .nil pass0 (pa_cons (pv 0) (pa_cons pe_int pa_nil))) pe_int (nomark _)) pa_nil)) (fun _ _ => rfl)))
    (pss_cons (ps_asg (pe_call G__law_names hr rfl m__law_names k__law_names b__law_names .nil pass0 (pa_cons (pv 0) (pa_cons (pv 8) (pa_cons (pv 1) pa_nil)))) (pg_sub (pv 5) pe_str (u_setD (hu_of hr))))
    (pss_cons (ps_for PassesOwn.never rfl (pi_list (pe_dgU (hu_of hr) (pv 5) pe_str (fun _ _ => rfl))) (pg_name (i := 7) sc_law_house.nd rfl (Or.inl rfl)) (pss_blk (pss_cons (ps_set (i := 9) sc_law_house.nd rfl (Or.inl rfl) (pe_ix u_ix (pe_lst (pa_cons pe_int (pa_cons (pe_call G__law_draw hr rfl m__law_draw k__law_draw b__law_draw .nil pass0 (pa_cons (pv 0) (pa_cons pe_int pa_nil))) (pa_cons (pe_call G__law_draw hr rfl m__law_draw k__law_draw b__law_draw .nil pass0 (pa_cons (pv 0) (pa_cons pe_int pa_nil))) pa_nil)))) (pe_call G__law_draw hr rfl m__law_draw k__law_draw b__law_draw .nil pass0 (pa_cons (pv 0) (pa_cons pe_int pa_nil))) (fun _ _ => rfl)))
    (pss_one (ps_asg (pe_tup (pa_cons (pe_op u_mul (pe_op u_add pe_int (pe_call G__law_draw hr rfl m__law_draw k__law_draw b__law_draw .nil pass0 (pa_cons (pv 0) (pa_cons pe_int pa_nil)))) (pv 3)) (pa_cons (pv 9) pa_nil))) (pg_sub (pe_dgU (hu_of hr) (pv 5) pe_str (fun _ _ => rfl)) (pv 7) (u_setD (hu_of hr))))))))
    (pss_cons (ps_for PassesOwn.never rfl (pi_range1 rfl m_range (pa_cons (pe_call G__law_draw hr rfl m__law_draw k__law_draw b__law_draw .nil pass0 (pa_cons (pv 0) (pa_cons pe_int pa_nil))) pa_nil)) (pg_name (i := 10) sc_law_house.nd rfl (Or.inl rfl)) (pss_blk (pss_cons (ps_set (i := 11) sc_law_house.nd rfl (Or.inl rfl) (pe_call G__law_bay_told hr rfl m__law_bay_told k__law_bay_told b__law_bay_told .nil pass0 (pa_cons (pv 0) (pa_cons (pv 5) pa_nil))))
    (pss_one (ps_if (pt_cmpR op_gt (pe_callB u_len rfl m_len PySem.boot_len (pa_cons (pv 11) pa_nil)) pe_int (nomark _)) (pss_one (ps_expr (pe_bm PySem.F.plainAttrs_list PySem.F.slot_list_append PySem.F.type_list_append u_app (pe_dgU (hu_of hr) (pv 5) pe_str (fun _ _ => rfl)) (pa_cons (pv 11) pa_nil)))) pss_nil)))))
    (pss_cons (ps_asg (pe_call G__law_draw hr rfl m__law_draw k__law_draw b__law_draw .nil pass0 (pa_cons (pv 0) (pa_cons pe_int pa_nil))) (pg_sub (pv 5) pe_str (u_setD (hu_of hr))))
    (pss_one (ps_ret (pv 5)))))))))))))))), ?_⟩
  (first | ((try clear hN); refine seq_hide fun N hN => ?_) | skip); (try simp (config := { contextual := true, maxSteps := 1000000 }) only [rdH1, uRepr_0, HO.dK.injEq, rdD1, rdB1, rdA1, rdA2, rdA3, rdA4, rdA5, rdS1, rdS2, reduceIte, Nat.reduceSub, Nat.reduceAdd, String.reduceBEq, Int.reducePow, Int.reduceNeg, Int.reduceLT, Int.reduceLE, Int.reduceToNat, Int.reduceMul, Int.reduceAdd, Int.reduceSub, reduceCtorEq, Nat.reduceLeDiff, Nat.reducePow, Nat.reduceLT, Int.reduceAbs])
  refine comp_range (fun i ys H' => ∃ xs : List Str, ys = xs.map V.str ∧ xs.length = i ∧ SameE [a] H H' ∧ Wl H' a (0 + i) ∧ (∀ x ∈ xs, NmOk 1 x)) ⟨[], rfl, rfl, SameE.refl, hw.mono (by omega), fun x hx => by cases hx⟩ (fun i ys H' hi ⟨xs, e, hl, _⟩ => by rw [e, List.length_map, hl]; exact small1 (by omega)) ?_ ?_
  · rintro i ys H' M hi ⟨xs, rfl, hl, sm, wl, hx⟩ nxt
    (first | ((try clear hN); refine seq_hide fun N hN => ?_) | skip); (try simp (config := { contextual := true, maxSteps := 1000000 }) only [rdH1, uRepr_0, HO.dK.injEq, rdD1, rdB1, rdA1, rdA2, rdA3, rdA4, rdA5, rdS1, rdS2, reduceIte, Nat.reduceSub, Nat.reduceAdd, String.reduceBEq, Int.reducePow, Int.reduceNeg, Int.reduceLT, Int.reduceLE, Int.reduceToNat, Int.reduceMul, Int.reduceAdd, Int.reduceSub, reduceCtorEq, Nat.reduceLeDiff, Nat.reducePow, Nat.reduceLT, Int.reduceAbs])
    refine ⟨a, 26, _, rfl, wl, by omega, by decide, by decide, fun v H2 v0 v1 s2 w2 => ?_⟩
    obtain ⟨c, ec, hc⟩ := lett_at v0 v1
    have lz : lett.length ≤ 16777216 := by decide +kernel
    (first | ((try clear hN); refine seq_hide fun N hN => ?_) | skip); (try simp (config := { contextual := true, maxSteps := 1000000 }) only [rdH1, uRepr_0, HO.dK.injEq, rdD1, rdB1, rdA1, rdA2, rdA3, rdA4, rdA5, rdS1, rdS2, reduceIte, Nat.reduceSub, Nat.reduceAdd, String.reduceBEq, Int.reducePow, Int.reduceNeg, Int.reduceLT, Int.reduceLE, Int.reduceToNat, Int.reduceMul, Int.reduceAdd, Int.reduceSub, reduceCtorEq, Nat.reduceLeDiff, Nat.reducePow, Nat.reduceLT, Int.reduceAbs])
    refine ⟨lz, c, ec, nxt _ _ ⟨xs ++ [⟨#[c]⟩], strs_snoc, by rw [List.length_append, hl]; rfl, sm.trans s2, w2.mono (by omega), fun x hx' => (List.mem_append.mp hx').elim (hx x) fun h => by rw [List.mem_singleton.mp h]; exact hc⟩⟩
  · rintro ys H1 r1 ⟨xs, rfl, hl, s1, w1, hx⟩ hr1
    have e1 : (upd H1 r1 (.lst (xs.map V.str))) r1 = some (.lst (xs.map V.str)) := upd_same
    have s2 := s1.new hr1 (.lst (xs.map V.str))
    have w2 := w1.new hr1 (.lst (xs.map V.str))
    have t1 := ltW ht hw s1
    have t2 := ltNew t1 hr1 (.lst (xs.map V.str))
    generalize upd H1 r1 (.lst (xs.map V.str)) = H2 at e1 s2 w2 t2 ⊢
    clear t1
    have hj := join_ok xs hx
    refine ⟨_, r1, xs, rfl, rfl, .inl (.inl e1), by have := sum_ones xs hx; show _ + _ * 0 ≤ _; omega, ?_⟩
    generalize eb : Txt.join "" xs = bs
    have hbs : NmOk 8 bs := by
      rw [← eb]; show NmOk 8 (PySem.Builtin.Str.glued "" xs)
      rw [StrLaws.glued_eq_join]; exact hj.mono (by omega)
    clear hj eb hx e1 hr1 s1 w1
    (first | refine hN _ _ ?_ | skip); (first | unfold Go | skip); (first | ((try clear hN); refine seq_hide fun N hN => ?_) | skip); (try simp (config := { contextual := true, maxSteps := 1000000 }) only [rdH1, uRepr_0, HO.dK.injEq, rdD1, rdB1, rdA1, rdA2, rdA3, rdA4, rdA5, rdS1, rdS2, reduceIte, Nat.reduceSub, Nat.reduceAdd, String.reduceBEq, Int.reducePow, Int.reduceNeg, Int.reduceLT, Int.reduceLE, Int.reduceToNat, Int.reduceMul, Int.reduceAdd, Int.reduceSub, reduceCtorEq, Nat.reduceLeDiff, Nat.reducePow, Nat.reduceLT, Int.reduceAbs])
    refine ⟨a, 100000, _, rfl, w2, by omega, by decide, by decide, fun g1 H3 g10 g11 s3 w3 => ?_⟩
    refine ⟨a, 800000, _, rfl, w3, by omega, by decide, by decide, fun g2 H4 g20 g21 s4 w4 => ?_⟩
    (first | ((try clear hN); refine seq_hide fun N hN => ?_) | skip); (try simp (config := { contextual := true, maxSteps := 1000000 }) only [rdH1, uRepr_0, HO.dK.injEq, rdD1, rdB1, rdA1, rdA2, rdA3, rdA4, rdA5, rdS1, rdS2, reduceIte, Nat.reduceSub, Nat.reduceAdd, String.reduceBEq, Int.reducePow, Int.reduceNeg, Int.reduceLT, Int.reduceLE, Int.reduceToNat, Int.reduceMul, Int.reduceAdd, Int.reduceSub, reduceCtorEq, Nat.reduceLeDiff, Nat.reducePow, Nat.reduceLT, Int.reduceAbs])
    refine ⟨.inl ⟨by omega, by omega⟩, ?_⟩
    have gm : 0 ≤ g1 * g2 := Int.mul_nonneg g10 g20
    have gM : g1 * g2 ≤ 100000 * 800000 := Int.mul_le_mul (by omega) (by omega) g20 (by decide)
    generalize g1 * g2 = gg at gm gM ⊢
    (first | refine hN _ _ ?_ | skip); (first | unfold Go | skip); (first | ((try clear hN); refine seq_hide fun N hN => ?_) | skip); (try simp (config := { contextual := true, maxSteps := 1000000 }) only [rdH1, uRepr_0, HO.dK.injEq, rdD1, rdB1, rdA1, rdA2, rdA3, rdA4, rdA5, rdS1, rdS2, reduceIte, Nat.reduceSub, Nat.reduceAdd, String.reduceBEq, Int.reducePow, Int.reduceNeg, Int.reduceLT, Int.reduceLE, Int.reduceToNat, Int.reduceMul, Int.reduceAdd, Int.reduceSub, reduceCtorEq, Nat.reduceLeDiff, Nat.reducePow, Nat.reduceLT, Int.reduceAbs])
    refine ⟨a, 9, _, rfl, w4, by omega, by decide, by decide, fun g3 H5 g30 g31 s5 w5 => ?_⟩
    (first | ((try clear hN); refine seq_hide fun N hN => ?_) | skip); (try simp (config := { contextual := true, maxSteps := 1000000 }) only [rdH1, uRepr_0, HO.dK.injEq, rdD1, rdB1, rdA1, rdA2, rdA3, rdA4, rdA5, rdS1, rdS2, reduceIte, Nat.reduceSub, Nat.reduceAdd, String.reduceBEq, Int.reducePow, Int.reduceNeg, Int.reduceLT, Int.reduceLE, Int.reduceToNat, Int.reduceMul, Int.reduceAdd, Int.reduceSub, reduceCtorEq, Nat.reduceLeDiff, Nat.reducePow, Nat.reduceLT, Int.reduceAbs])
    intro l1 hl1
    have t5 := ltW (ltW (ltW t2 w2 s3) w3 s4) w4 s5
    have sx := ((s2.trans s3).trans (s4.trans s5)).new hl1 (.lst [V.int 1, V.int (1 + g3), V.int (1 + gg)])
    have w6 := w5.new hl1 (.lst [V.int 1, V.int (1 + g3), V.int (1 + gg)])
    have t6 := ltNew t5 hl1 (.lst [V.int 1, V.int (1 + g3), V.int (1 + gg)])
    have e6 : (upd H5 l1 (.lst [V.int 1, V.int (1 + g3), V.int (1 + gg)])) l1 = _ := upd_same
    generalize upd H5 l1 (.lst [V.int 1, V.int (1 + g3), V.int (1 + gg)]) = H6 at sx w6 e6 t6 ⊢
    refine ⟨a, 3, _, rfl, w6, by omega, by decide, by decide, fun v7 H7 v70 v71 s7 w7 => ?_⟩
    have e7 := s7.lst w6.dky e6
    obtain ⟨sc, ex7, hsc⟩ := at3 1 (1 + g3) (1 + gg) v7 v70 v71
    refine ⟨_, by rw [e7]; rfl, _, rfl, _, ex7, ?_⟩
    have c0 : 1 ≤ sc := by omega
    have c1 : sc ≤ 80000000001 := by omega
    have t7 := ltW t6 w6 s7
    have sy := sx.trans s7
    clear hsc ex7 e7 e6 t6 sx s7 w6 s5 t5 w5 s4 s3 w4 w3 t2 s2 w2
    (first | refine hN _ _ ?_ | skip); (first | unfold Go | skip); (first | ((try clear hN); refine seq_hide fun N hN => ?_) | skip); (try simp (config := { contextual := true, maxSteps := 1000000 }) only [rdH1, uRepr_0, HO.dK.injEq, rdD1, rdB1, rdA1, rdA2, rdA3, rdA4, rdA5, rdS1, rdS2, reduceIte, Nat.reduceSub, Nat.reduceAdd, String.reduceBEq, Int.reducePow, Int.reduceNeg, Int.reduceLT, Int.reduceLE, Int.reduceToNat, Int.reduceMul, Int.reduceAdd, Int.reduceSub, reduceCtorEq, Nat.reduceLeDiff, Nat.reducePow, Nat.reduceLT, Int.reduceAbs])
    refine ⟨a, 9, _, rfl, w7, by omega, by decide, by decide, fun g4 H8 g40 g41 s8 w8 => ?_⟩
    (first | ((try clear hN); refine seq_hide fun N hN => ?_) | skip); (try simp (config := { contextual := true, maxSteps := 1000000 }) only [rdH1, uRepr_0, HO.dK.injEq, rdD1, rdB1, rdA1, rdA2, rdA3, rdA4, rdA5, rdS1, rdS2, reduceIte, Nat.reduceSub, Nat.reduceAdd, String.reduceBEq, Int.reducePow, Int.reduceNeg, Int.reduceLT, Int.reduceLE, Int.reduceToNat, Int.reduceMul, Int.reduceAdd, Int.reduceSub, reduceCtorEq, Nat.reduceLeDiff, Nat.reducePow, Nat.reduceLT, Int.reduceAbs])
    refine ⟨.inl ⟨by omega, by omega⟩, ?_⟩
    have m0 : 0 < (1 + g4) * sc := Int.mul_pos (by omega) (by omega)
    have m1 : (1 + g4) * sc ≤ 9 * 80000000001 := Int.mul_le_mul (by omega) c1 (by omega) (by decide)
    generalize (1 + g4) * sc = pl at m0 m1 ⊢
    (first | refine hN _ _ ?_ | skip); (first | unfold Go | skip); (first | ((try clear hN); refine seq_hide fun N hN => ?_) | skip); (try simp (config := { contextual := true, maxSteps := 1000000 }) only [rdH1, uRepr_0, HO.dK.injEq, rdD1, rdB1, rdA1, rdA2, rdA3, rdA4, rdA5, rdS1, rdS2, reduceIte, Nat.reduceSub, Nat.reduceAdd, String.reduceBEq, Int.reducePow, Int.reduceNeg, Int.reduceLT, Int.reduceLE, Int.reduceToNat, Int.reduceMul, Int.reduceAdd, Int.reduceSub, reduceCtorEq, Nat.reduceLeDiff, Nat.reducePow, Nat.reduceLT, Int.reduceAbs])
    intro hs hhs db hdb ep hep ly hly
    have hs9 := hs_mk (sy.trans s8).wide w8 (ltW t7 w7 s8) hhs hdb hep hly
    refine ⟨hs9.h, hk0 pl db ep ly, hs_kvs, by show (4 : Nat) ≤ 15; omega, ?_⟩
    rw [hk0_mk]
    have hs10 := hs9.setH (hk0 pl db ep ly)
    generalize upd (upd (upd (upd (upd H8 hs (HO.dK [])) db (HO.dK [])) ep (HO.dK [])) ly (HO.lst [])) hs (HO.dK (hk0 pl db ep ly)) = G at hs10 ⊢
    clear hs9 hhs hdb hep hly s8 w8 sy w7 t7
    (first | refine hN _ _ ?_ | skip); (first | unfold Go | skip); (first | ((try clear hN); refine seq_hide fun N hN => ?_) | skip); (try simp (config := { contextual := true, maxSteps := 1000000 }) only [rdH1, uRepr_0, HO.dK.injEq, rdD1, rdB1, rdA1, rdA2, rdA3, rdA4, rdA5, rdS1, rdS2, reduceIte, Nat.reduceSub, Nat.reduceAdd, String.reduceBEq, Int.reducePow, Int.reduceNeg, Int.reduceLT, Int.reduceLE, Int.reduceToNat, Int.reduceMul, Int.reduceAdd, Int.reduceSub, reduceCtorEq, Nat.reduceLeDiff, Nat.reducePow, Nat.reduceLT, Int.reduceAbs])
    refine ⟨a, 4, _, rfl, hs10.w, by omega, by decide, by decide, fun g5 G1 g50 g51 s11 w11 => ?_⟩
    have hs11 := hs10.draw s11 w11
    (first | ((try clear hN); refine seq_hide fun N hN => ?_) | skip); (try simp (config := { contextual := true, maxSteps := 1000000 }) only [rdH1, uRepr_0, HO.dK.injEq, rdD1, rdB1, rdA1, rdA2, rdA3, rdA4, rdA5, rdS1, rdS2, reduceIte, Nat.reduceSub, Nat.reduceAdd, String.reduceBEq, Int.reducePow, Int.reduceNeg, Int.reduceLT, Int.reduceLE, Int.reduceToNat, Int.reduceMul, Int.reduceAdd, Int.reduceSub, reduceCtorEq, Nat.reduceLeDiff, Nat.reducePow, Nat.reduceLT, Int.reduceAbs])
    refine ⟨a, 4, _, rfl, hs11.w, by omega, by decide, by decide, fun g6 G2 g60 g61 s12 w12 => ?_⟩
    have hs12 := hs11.draw s12 w12
    (first | ((try clear hN); refine seq_hide fun N hN => ?_) | skip); (try simp (config := { contextual := true, maxSteps := 1000000 }) only [rdH1, uRepr_0, HO.dK.injEq, rdD1, rdB1, rdA1, rdA2, rdA3, rdA4, rdA5, rdS1, rdS2, reduceIte, Nat.reduceSub, Nat.reduceAdd, String.reduceBEq, Int.reducePow, Int.reduceNeg, Int.reduceLT, Int.reduceLE, Int.reduceToNat, Int.reduceMul, Int.reduceAdd, Int.reduceSub, reduceCtorEq, Nat.reduceLeDiff, Nat.reducePow, Nat.reduceLT, Int.reduceAbs])
    intro l2 hl2
    have hs13 := hs12.new hl2 (.lst [V.int (1 + g5), V.int (5 + g6)])
    have e13 : (upd G2 l2 (.lst [V.int (1 + g5), V.int (5 + g6)])) l2 = _ := upd_same
    generalize upd G2 l2 (.lst [V.int (1 + g5), V.int (5 + g6)]) = G3 at hs13 e13 ⊢
    refine ⟨a, 9, _, rfl, hs13.w, by omega, by decide, by decide, fun g7 G4 g70 g71 s14 w14 => ?_⟩
    have hs14 := hs13.draw s14 w14
    have e14 := s14.lst hs13.w.dky e13
    (first | ((try clear hN); refine seq_hide fun N hN => ?_) | skip); (try simp (config := { contextual := true, maxSteps := 1000000 }) only [rdH1, uRepr_0, HO.dK.injEq, rdD1, rdB1, rdA1, rdA2, rdA3, rdA4, rdA5, rdS1, rdS2, reduceIte, Nat.reduceSub, Nat.reduceAdd, String.reduceBEq, Int.reducePow, Int.reduceNeg, Int.reduceLT, Int.reduceLE, Int.reduceToNat, Int.reduceMul, Int.reduceAdd, Int.reduceSub, reduceCtorEq, Nat.reduceLeDiff, Nat.reducePow, Nat.reduceLT, Int.reduceAbs, e14])
    obtain ⟨many, em, hm⟩ := at2 (1 + g5) (5 + g6) (g7 = 1)
    refine ⟨_, em, ?_⟩
    have many1 : 1 ≤ many := by omega
    have many8 : many ≤ 8 := by omega
    clear hm em e14 e13 s14 w14 hs13 s12 w12 hs12 s11 w11 hs11 hs10
    (first | refine hN _ _ ?_ | skip); (first | unfold Go | skip); (first | ((try clear hN); refine seq_hide fun N hN => ?_) | skip); (try simp (config := { contextual := true, maxSteps := 1000000 }) only [rdH1, uRepr_0, HO.dK.injEq, rdD1, rdB1, rdA1, rdA2, rdA3, rdA4, rdA5, rdS1, rdS2, reduceIte, Nat.reduceSub, Nat.reduceAdd, String.reduceBEq, Int.reducePow, Int.reduceNeg, Int.reduceLT, Int.reduceLE, Int.reduceToNat, Int.reduceMul, Int.reduceAdd, Int.reduceSub, reduceCtorEq, Nat.reduceLeDiff, Nat.reducePow, Nat.reduceLT, Int.reduceAbs])
    refine ⟨a, _, many, bs, rfl, hs14.w, by omega, by omega, by omega, hbs, fun bb bars G5 s15 w15 nbb ebb hbl hbx => ?_⟩
    have hs15 := hs14.draw s15 w15
    have bl : bb ≠ ly := (ne_of_none hs14.l nbb).symm
    (first | ((try clear hN); refine seq_hide fun N hN => ?_) | skip); (try simp (config := { contextual := true, maxSteps := 1000000 }) only [rdH1, uRepr_0, HO.dK.injEq, rdD1, rdB1, rdA1, rdA2, rdA3, rdA4, rdA5, rdS1, rdS2, reduceIte, Nat.reduceSub, Nat.reduceAdd, String.reduceBEq, Int.reducePow, Int.reduceNeg, Int.reduceLT, Int.reduceLE, Int.reduceToNat, Int.reduceMul, Int.reduceAdd, Int.reduceSub, reduceCtorEq, Nat.reduceLeDiff, Nat.reducePow, Nat.reduceLT, Int.reduceAbs])
    refine ⟨_, hs15.h, by show (4 : Nat) < 16777216; omega, ?_⟩
    rw [hk0_1]
    have hs16 := hs15.setH (hk1 pl db ep ly bb)
    have ebb6 := (Kt.dk (ly := ly) hs15.h (.dK (hk1 pl db ep ly bb))).2 bb _ ebb bl
    generalize upd G5 hs (HO.dK (hk1 pl db ep ly bb)) = G6 at hs16 ebb6 ⊢
    clear hs15 s15 w15 nbb ebb hs14
    (first | refine hN _ _ ?_ | skip); (first | unfold Go | skip); (first | ((try clear hN); refine seq_hide fun N hN => ?_) | skip); (try simp (config := { contextual := true, maxSteps := 1000000 }) only [rdH1, uRepr_0, HO.dK.injEq, rdD1, rdB1, rdA1, rdA2, rdA3, rdA4, rdA5, rdS1, rdS2, reduceIte, Nat.reduceSub, Nat.reduceAdd, String.reduceBEq, Int.reducePow, Int.reduceNeg, Int.reduceLT, Int.reduceLE, Int.reduceToNat, Int.reduceMul, Int.reduceAdd, Int.reduceSub, reduceCtorEq, Nat.reduceLeDiff, Nat.reducePow, Nat.reduceLT, Int.reduceAbs, hs16.h, hk1_bars])
    refine ⟨⟨_, .inl (.inl ebb6)⟩, ?_⟩
    refine loop_list (xs := bars.map V.str) (fun i σ H' => ∃ (k2 : List (Key × V)) (v7 : Option V), σ = [some (V.ref a), some (V.str bs), some (V.int (1 + gg)), some (V.int sc), some (V.int pl), some (V.ref hs), some (V.int many), v7, none, none, none, none] ∧ HS PT a hs db ep ly H H' (100 + 20 * i) (hk1 pl db ep ly bb) k2 [] [] ∧ H' bb = some (.lst (bars.map V.str)) ∧ k2.length ≤ i ∧ ∀ j y, j < i → bars[j]? = some y → Told H' k2 y) ⟨[], none, rfl, hs16.mono (by omega), ebb6, Nat.le_refl _, fun j y hj => by omega⟩ (fun i σ H' _ ⟨k2, v7, _, _, z, _⟩ => z) ?_ ?_
    · rintro i x σ H' hx ⟨k2, v7, rfl, hh, ebb, hk, tl⟩
      obtain ⟨y, ey, rfl⟩ := str_nth hx
      have hi : i < bars.length := (List.getElem?_eq_some_iff.mp ey).1
      (first | ((try clear hN); refine seq_hide fun N hN => ?_) | skip); (try simp (config := { contextual := true, maxSteps := 1000000 }) only [rdH1, uRepr_0, HO.dK.injEq, rdD1, rdB1, rdA1, rdA2, rdA3, rdA4, rdA5, rdS1, rdS2, reduceIte, Nat.reduceSub, Nat.reduceAdd, String.reduceBEq, Int.reducePow, Int.reduceNeg, Int.reduceLT, Int.reduceLE, Int.reduceToNat, Int.reduceMul, Int.reduceAdd, Int.reduceSub, reduceCtorEq, Nat.reduceLeDiff, Nat.reducePow, Nat.reduceLT, Int.reduceAbs])
      refine ⟨a, _, pl, 12 * sc, rfl, hh.w, by omega, m0, by omega, by omega, by omega, fun p z0 z1 z2 z3 z4 z5 G7 s7 w7 np ep7 => ?_⟩
      have hh7 := hh.draw s7 w7
      have kt7 := hh.kD s7
      (first | ((try clear hN); refine seq_hide fun N hN => ?_) | skip); (try simp (config := { contextual := true, maxSteps := 1000000 }) only [rdH1, uRepr_0, HO.dK.injEq, rdD1, rdB1, rdA1, rdA2, rdA3, rdA4, rdA5, rdS1, rdS2, reduceIte, Nat.reduceSub, Nat.reduceAdd, String.reduceBEq, Int.reducePow, Int.reduceNeg, Int.reduceLT, Int.reduceLE, Int.reduceToNat, Int.reduceMul, Int.reduceAdd, Int.reduceSub, reduceCtorEq, Nat.reduceLeDiff, Nat.reducePow, Nat.reduceLT, Int.reduceAbs, hh7.h, hk1_bar])
      refine ⟨_, hh7.d, by omega, _, (hh7.setD _).mono (by omega), (Kt.dk (ly := ly) hh7.d _).2 _ _ (kt7.2 _ _ ebb bl) bl, by have := length_putK k2 (Sum.inr y : Key) (V.ref p); omega, fun j z hj ez => ?_⟩
      refine Told.kt (Told.put (x := z1) (fun ne => (tl j z ?_ ez).kt kt7) ep7 rfl) (Kt.dk (ly := ly) hh7.d _)
      rcases Nat.lt_or_ge j i with h | h
      · exact h
      · obtain rfl : j = i := by omega
        rw [ez] at ey; exact absurd (Option.some.inj ey) ne
    · rintro σ G7 ⟨k2, v7, rfl, hs17, ebb7, hk, tl⟩
      have tl7 : ∀ y ∈ bars, Told G7 k2 y := fun y hy => by
        obtain ⟨j, hj⟩ := List.getElem?_of_mem hy
        exact tl j y (by rw [List.length_map]; exact (List.getElem?_eq_some_iff.mp hj).1) hj
      clear tl
      have hs17 := hs17.mono (m := 300) (by rw [List.length_map]; omega)
      clear hs16 ebb6
      (first | refine hN _ _ ?_ | skip); (first | unfold Go | skip); (first | ((try clear hN); refine seq_hide fun N hN => ?_) | skip); (try simp (config := { contextual := true, maxSteps := 1000000 }) only [rdH1, uRepr_0, HO.dK.injEq, rdD1, rdB1, rdA1, rdA2, rdA3, rdA4, rdA5, rdS1, rdS2, reduceIte, Nat.reduceSub, Nat.reduceAdd, String.reduceBEq, Int.reducePow, Int.reduceNeg, Int.reduceLT, Int.reduceLE, Int.reduceToNat, Int.reduceMul, Int.reduceAdd, Int.reduceSub, reduceCtorEq, Nat.reduceLeDiff, Nat.reducePow, Nat.reduceLT, Int.reduceAbs])
      refine ⟨a, 6, _, rfl, hs17.w, by omega, by decide, by decide, fun g8 G8 g80 g81 s18 w18 => ?_⟩
      have hs18 := hs17.draw s18 w18
      have k18 := hs17.kD s18
      refine ⟨a, 7, _, rfl, hs18.w, by omega, by decide, by decide, fun g9 G9 g90 g91 s19 w19 => ?_⟩
      have hs19 := hs18.draw s19 w19
      have k19 := k18.trans (hs18.kD s19)
      (first | ((try clear hN); refine seq_hide fun N hN => ?_) | skip); (try simp (config := { contextual := true, maxSteps := 1000000 }) only [rdH1, uRepr_0, HO.dK.injEq, rdD1, rdB1, rdA1, rdA2, rdA3, rdA4, rdA5, rdS1, rdS2, reduceIte, Nat.reduceSub, Nat.reduceAdd, String.reduceBEq, Int.reducePow, Int.reduceNeg, Int.reduceLT, Int.reduceLE, Int.reduceToNat, Int.reduceMul, Int.reduceAdd, Int.reduceSub, reduceCtorEq, Nat.reduceLeDiff, Nat.reducePow, Nat.reduceLT, Int.reduceAbs])
      intro l3 hl3
      have hs20 := hs19.new hl3 (.lst [V.int g8, V.int (6 + g9)])
      have k20 := k19.trans (Kt.new hl3 (.lst [V.int g8, V.int (6 + g9)]))
      have e20 : (upd G9 l3 (.lst [V.int g8, V.int (6 + g9)])) l3 = _ := upd_same
      generalize upd G9 l3 (.lst [V.int g8, V.int (6 + g9)]) = GA at hs20 e20 k20 ⊢
      refine ⟨a, 9, _, rfl, hs20.w, by omega, by decide, by decide, fun gB GB gB0 gB1 s21 w21 => ?_⟩
      have hs21 := hs20.draw s21 w21
      have k21 := k20.trans (hs20.kD s21)
      have e21 := s21.lst hs20.w.dky e20
      (first | ((try clear hN); refine seq_hide fun N hN => ?_) | skip); (try simp (config := { contextual := true, maxSteps := 1000000 }) only [rdH1, uRepr_0, HO.dK.injEq, rdD1, rdB1, rdA1, rdA2, rdA3, rdA4, rdA5, rdS1, rdS2, reduceIte, Nat.reduceSub, Nat.reduceAdd, String.reduceBEq, Int.reducePow, Int.reduceNeg, Int.reduceLT, Int.reduceLE, Int.reduceToNat, Int.reduceMul, Int.reduceAdd, Int.reduceSub, reduceCtorEq, Nat.reduceLeDiff, Nat.reducePow, Nat.reduceLT, Int.reduceAbs, e21])
      obtain ⟨some', em, hm⟩ := at2 g8 (6 + g9) (gB = 1)
      refine ⟨_, em, ?_⟩
      have so0 : 0 ≤ some' := by omega
      have so12 : some' ≤ 12 := by omega
      clear hm em e21 e20 s21 w21 hs20 k20 s19 w19 hs19 k19 s18 w18 hs18 k18
      (first | refine hN _ _ ?_ | skip); (first | unfold Go | skip); (first | ((try clear hN); refine seq_hide fun N hN => ?_) | skip); (try simp (config := { contextual := true, maxSteps := 1000000 }) only [rdH1, uRepr_0, HO.dK.injEq, rdD1, rdB1, rdA1, rdA2, rdA3, rdA4, rdA5, rdS1, rdS2, reduceIte, Nat.reduceSub, Nat.reduceAdd, String.reduceBEq, Int.reducePow, Int.reduceNeg, Int.reduceLT, Int.reduceLE, Int.reduceToNat, Int.reduceMul, Int.reduceAdd, Int.reduceSub, reduceCtorEq, Nat.reduceLeDiff, Nat.reducePow, Nat.reduceLT, Int.reduceAbs])
      refine ⟨a, _, some', bs, rfl, hs21.w, by omega, by omega, by omega, hbs, fun pp pieces GC s22 w22 npp epp hpl hpx => ?_⟩
      have hs22 := hs21.draw s22 w22
      have k22 := k21.trans (hs21.kD s22)
      have pl' : pp ≠ ly := (ne_of_none hs21.l npp).symm
      (first | ((try clear hN); refine seq_hide fun N hN => ?_) | skip); (try simp (config := { contextual := true, maxSteps := 1000000 }) only [rdH1, uRepr_0, HO.dK.injEq, rdD1, rdB1, rdA1, rdA2, rdA3, rdA4, rdA5, rdS1, rdS2, reduceIte, Nat.reduceSub, Nat.reduceAdd, String.reduceBEq, Int.reducePow, Int.reduceNeg, Int.reduceLT, Int.reduceLE, Int.reduceToNat, Int.reduceMul, Int.reduceAdd, Int.reduceSub, reduceCtorEq, Nat.reduceLeDiff, Nat.reducePow, Nat.reduceLT, Int.reduceAbs])
      refine ⟨_, hs22.h, by show (5 : Nat) < 16777216; omega, ?_⟩
      rw [hk1_2]
      have hs23 := hs22.setH (hk2 pl db ep ly bb pp)
      have kd := Kt.dk (ly := ly) hs22.h (.dK (hk2 pl db ep ly bb pp))
      have epp3 := kd.2 pp _ epp pl'
      have k23 := k22.trans kd
      generalize upd GC hs (HO.dK (hk2 pl db ep ly bb pp)) = GD at hs23 epp3 k23 ⊢
      have ebb3 := k23.2 bb _ ebb7 bl
      have tl3 : ∀ y ∈ bars, Told GD k2 y := fun y hy => (tl7 y hy).kt k23
      clear kd hs22 k22 s22 w22 npp epp hs21 k21 tl7 ebb7 k23
      (first | refine hN _ _ ?_ | skip); (first | unfold Go | skip); (first | ((try clear hN); refine seq_hide fun N hN => ?_) | skip); (try simp (config := { contextual := true, maxSteps := 1000000 }) only [rdH1, uRepr_0, HO.dK.injEq, rdD1, rdB1, rdA1, rdA2, rdA3, rdA4, rdA5, rdS1, rdS2, reduceIte, Nat.reduceSub, Nat.reduceAdd, String.reduceBEq, Int.reducePow, Int.reduceNeg, Int.reduceLT, Int.reduceLE, Int.reduceToNat, Int.reduceMul, Int.reduceAdd, Int.reduceSub, reduceCtorEq, Nat.reduceLeDiff, Nat.reducePow, Nat.reduceLT, Int.reduceAbs, hs23.h, hk2_pieces])
      refine ⟨⟨_, .inl (.inl epp3)⟩, ?_⟩
      refine loop_list (xs := pieces.map V.str) (fun i σ H' => ∃ (k3 : List (Key × V)) (v7 v9 : Option V), σ = [some (V.ref a), some (V.str bs), some (V.int (1 + gg)), some (V.int sc), some (V.int pl), some (V.ref hs), some (V.int many), v7, some (V.int some'), v9, none, none] ∧ HS PT a hs db ep ly H H' (400 + 20 * i) (hk2 pl db ep ly bb pp) k2 k3 [] ∧ H' pp = some (.lst (pieces.map V.str)) ∧ H' bb = some (.lst (bars.map V.str)) ∧ k3.length ≤ i ∧ ∀ y ∈ bars, Told H' k2 y) ⟨[], _, _, rfl, hs23.mono (by omega), epp3, ebb3, Nat.le_refl _, tl3⟩ (fun i σ H' _ ⟨k3, v7, v9, _, _, z, _⟩ => z) ?_ ?_
      · rintro i x σ H' hx ⟨k3, v7, v9, rfl, hh, epp, ebb, hkk, tl⟩
        obtain ⟨y, ey, rfl⟩ := str_nth hx
        have hi : i < pieces.length := (List.getElem?_eq_some_iff.mp ey).1
        (first | ((try clear hN); refine seq_hide fun N hN => ?_) | skip); (try simp (config := { contextual := true, maxSteps := 1000000 }) only [rdH1, uRepr_0, HO.dK.injEq, rdD1, rdB1, rdA1, rdA2, rdA3, rdA4, rdA5, rdS1, rdS2, reduceIte, Nat.reduceSub, Nat.reduceAdd, String.reduceBEq, Int.reducePow, Int.reduceNeg, Int.reduceLT, Int.reduceLE, Int.reduceToNat, Int.reduceMul, Int.reduceAdd, Int.reduceSub, reduceCtorEq, Nat.reduceLeDiff, Nat.reducePow, Nat.reduceLT, Int.reduceAbs])
        refine ⟨a, 4, _, rfl, hh.w, by omega, by decide, by decide, fun u1 J1 u10 u11 z1 y1 => ?_⟩
        have h1 := hh.draw z1 y1
        have q1 := hh.kD z1
        refine ⟨a, 61, _, rfl, h1.w, by omega, by decide, by decide, fun u2 J2 u20 u21 z2 y2 => ?_⟩
        have h2 := h1.draw z2 y2
        have q2 := q1.trans (h1.kD z2)
        intro l4 hl4
        have h3 := h2.new hl4 (.lst [V.int 0, V.int u1, V.int u2])
        have q3 := q2.trans (Kt.new hl4 (.lst [V.int 0, V.int u1, V.int u2]))
        have e3 : (upd J2 l4 (.lst [V.int 0, V.int u1, V.int u2])) l4 = _ := upd_same
        generalize upd J2 l4 (.lst [V.int 0, V.int u1, V.int u2]) = J3 at h3 q3 e3 ⊢
        refine ⟨a, 3, _, rfl, h3.w, by omega, by decide, by decide, fun u4 J4 u40 u41 z4 y4 => ?_⟩
        have h4 := h3.draw z4 y4
        have q4 := q3.trans (h3.kD z4)
        have e4 := z4.lst h3.w.dky e3
        obtain ⟨dr, ed, _⟩ := at3 0 u1 u2 u4 u40 u41
        refine ⟨_, by rw [e4]; rfl, _, rfl, _, ed, ?_⟩
        (first | refine hN _ _ ?_ | skip); (first | unfold Go | skip); (first | ((try clear hN); refine seq_hide fun N hN => ?_) | skip); (try simp (config := { contextual := true, maxSteps := 1000000 }) only [rdH1, uRepr_0, HO.dK.injEq, rdD1, rdB1, rdA1, rdA2, rdA3, rdA4, rdA5, rdS1, rdS2, reduceIte, Nat.reduceSub, Nat.reduceAdd, String.reduceBEq, Int.reducePow, Int.reduceNeg, Int.reduceLT, Int.reduceLE, Int.reduceToNat, Int.reduceMul, Int.reduceAdd, Int.reduceSub, reduceCtorEq, Nat.reduceLeDiff, Nat.reducePow, Nat.reduceLT, Int.reduceAbs])
        refine ⟨a, 12, _, rfl, h4.w, by omega, by decide, by decide, fun u5 J5 u50 u51 z5 y5 => ?_⟩
        have h5 := h4.draw z5 y5
        have q5 := q4.trans (h4.kD z5)
        (first | ((try clear hN); refine seq_hide fun N hN => ?_) | skip); (try simp (config := { contextual := true, maxSteps := 1000000 }) only [rdH1, uRepr_0, HO.dK.injEq, rdD1, rdB1, rdA1, rdA2, rdA3, rdA4, rdA5, rdS1, rdS2, reduceIte, Nat.reduceSub, Nat.reduceAdd, String.reduceBEq, Int.reducePow, Int.reduceNeg, Int.reduceLT, Int.reduceLE, Int.reduceToNat, Int.reduceMul, Int.reduceAdd, Int.reduceSub, reduceCtorEq, Nat.reduceLeDiff, Nat.reducePow, Nat.reduceLT, Int.reduceAbs])
        refine ⟨.inl ⟨by omega, by omega⟩, ?_⟩
        intro tu htu
        have h6 := h5.new htu (.tup [V.int ((1 + u5) * sc), V.int dr])
        have q6 := q5.trans (Kt.new htu (.tup [V.int ((1 + u5) * sc), V.int dr]))
        generalize upd J5 tu (.tup [V.int ((1 + u5) * sc), V.int dr]) = J6 at h6 q6 ⊢
        (first | ((try clear hN); refine seq_hide fun N hN => ?_) | skip); (try simp (config := { contextual := true, maxSteps := 1000000 }) only [rdH1, uRepr_0, HO.dK.injEq, rdD1, rdB1, rdA1, rdA2, rdA3, rdA4, rdA5, rdS1, rdS2, reduceIte, Nat.reduceSub, Nat.reduceAdd, String.reduceBEq, Int.reducePow, Int.reduceNeg, Int.reduceLT, Int.reduceLE, Int.reduceToNat, Int.reduceMul, Int.reduceAdd, Int.reduceSub, reduceCtorEq, Nat.reduceLeDiff, Nat.reducePow, Nat.reduceLT, Int.reduceAbs, h6.h, hk2_piece])
        have kd := Kt.dk (ly := ly) h6.p (.dK (putK k3 (Sum.inr y) (V.ref tu)))
        refine ⟨_, h6.p, by omega, _, (h6.setP _).mono (by omega), (q6.trans kd).2 _ _ epp pl', (q6.trans kd).2 _ _ ebb bl, by have := length_putK k3 (Sum.inr y : Key) (V.ref tu); omega, fun z hz => (tl z hz).kt (q6.trans kd)⟩
      · rintro σ GE ⟨k3, v7, v9, rfl, hs24, epp, ebb, hkk, tl⟩
        have hs24 := hs24.mono (m := 700) (by rw [List.length_map]; omega)
        clear hs23 epp3 ebb3 tl3 hs17
        (first | refine hN _ _ ?_ | skip); (first | unfold Go | skip); (first | ((try clear hN); refine seq_hide fun N hN => ?_) | skip); (try simp (config := { contextual := true, maxSteps := 1000000 }) only [rdH1, uRepr_0, HO.dK.injEq, rdD1, rdB1, rdA1, rdA2, rdA3, rdA4, rdA5, rdS1, rdS2, reduceIte, Nat.reduceSub, Nat.reduceAdd, String.reduceBEq, Int.reducePow, Int.reduceNeg, Int.reduceLT, Int.reduceLE, Int.reduceToNat, Int.reduceMul, Int.reduceAdd, Int.reduceSub, reduceCtorEq, Nat.reduceLeDiff, Nat.reducePow, Nat.reduceLT, Int.reduceAbs])
        refine ⟨a, 4, _, rfl, hs24.w, by omega, by decide, by decide, fun u1 J1 u10 u11 z1 y1 => ?_⟩
        have h1 := hs24.draw z1 y1
        have q1 := hs24.kD z1
        refine ⟨_, rfl, by omega, by omega, ?_⟩
        refine loop_range (fun i σ H' => ∃ (zs : List V) (v10 v11 : Option V), σ = [some (V.ref a), some (V.str bs), some (V.int (1 + gg)), some (V.int sc), some (V.int pl), some (V.ref hs), some (V.int many), v7, some (V.int some'), v9, v10, v11] ∧ HS PT a hs db ep ly H H' (701 + 8 * i) (hk2 pl db ep ly bb pp) k2 k3 zs ∧ H' pp = some (.lst (pieces.map V.str)) ∧ H' bb = some (.lst (bars.map V.str)) ∧ zs.length ≤ i ∧ ∀ y ∈ bars, Told H' k2 y) ⟨[], _, _, rfl, h1.mono (by omega), q1.2 _ _ epp pl', q1.2 _ _ ebb bl, Nat.le_refl _, fun y hy => (tl y hy).kt q1⟩ ?_ ?_
        · rintro i σ H' hi ⟨zs, v10, v11, rfl, hh, epp, ebb, hz, tl⟩
          (first | ((try clear hN); refine seq_hide fun N hN => ?_) | skip); (try simp (config := { contextual := true, maxSteps := 1000000 }) only [rdH1, uRepr_0, HO.dK.injEq, rdD1, rdB1, rdA1, rdA2, rdA3, rdA4, rdA5, rdS1, rdS2, reduceIte, Nat.reduceSub, Nat.reduceAdd, String.reduceBEq, Int.reducePow, Int.reduceNeg, Int.reduceLT, Int.reduceLE, Int.reduceToNat, Int.reduceMul, Int.reduceAdd, Int.reduceSub, reduceCtorEq, Nat.reduceLeDiff, Nat.reducePow, Nat.reduceLT, Int.reduceAbs])
          refine ⟨a, _, hs, bb, db, _, k2, bars, rfl, hh.w, by omega, ⟨hh.h, hk2_bars .., hk2_bar .., ebb, hh.d, tl⟩, by omega, hh.ah, hh.ad, hh.t, fun r ys J3 z3 y3 t3 nr er => ?_⟩
          have h3 := hh.both z3 y3 t3
          have q3 := hh.kP z3
          (first | refine hN _ _ ?_ | skip); (first | unfold Go | skip); (first | ((try clear hN); refine seq_hide fun N hN => ?_) | skip); (try simp (config := { contextual := true, maxSteps := 1000000 }) only [rdH1, uRepr_0, HO.dK.injEq, rdD1, rdB1, rdA1, rdA2, rdA3, rdA4, rdA5, rdS1, rdS2, reduceIte, Nat.reduceSub, Nat.reduceAdd, String.reduceBEq, Int.reducePow, Int.reduceNeg, Int.reduceLT, Int.reduceLE, Int.reduceToNat, Int.reduceMul, Int.reduceAdd, Int.reduceSub, reduceCtorEq, Nat.reduceLeDiff, Nat.reducePow, Nat.reduceLT, Int.reduceAbs, er, h3.h, hk2_bays])
          refine ite2 (fun _ => ?_) (fun _ => ⟨zs, h3.mono (by omega), q3.2 _ _ epp pl', q3.2 _ _ ebb bl, by omega, fun y hy => (tl y hy).kt q3⟩)
          have kd := q3.trans (Kt.l h3.l (.lst (zs ++ [V.ref r])))
          exact ⟨tyV_lst h3.l, _, h3.l, by omega, _, (h3.setL _).mono (by omega), kd.2 _ _ epp pl', kd.2 _ _ ebb bl, by rw [List.length_append]; show zs.length + 1 ≤ _; omega, fun y hy => (tl y hy).kt kd⟩
        · rintro σ GF ⟨zs, v10, v11, rfl, hh, epp, ebb, hz, tl⟩
          have hh := hh.mono (m := 900) (by omega)
          (first | refine hN _ _ ?_ | skip); (first | unfold Go | skip); (first | ((try clear hN); refine seq_hide fun N hN => ?_) | skip); (try simp (config := { contextual := true, maxSteps := 1000000 }) only [rdH1, uRepr_0, HO.dK.injEq, rdD1, rdB1, rdA1, rdA2, rdA3, rdA4, rdA5, rdS1, rdS2, reduceIte, Nat.reduceSub, Nat.reduceAdd, String.reduceBEq, Int.reducePow, Int.reduceNeg, Int.reduceLT, Int.reduceLE, Int.reduceToNat, Int.reduceMul, Int.reduceAdd, Int.reduceSub, reduceCtorEq, Nat.reduceLeDiff, Nat.reducePow, Nat.reduceLT, Int.reduceAbs])
          refine ⟨a, 3, _, rfl, hh.w, by omega, by decide, by decide, fun tu J2 tu0 tu1 z2 y2 => ?_⟩
          have h2 := hh.draw z2 y2
          have q2 := hh.kD z2
          (first | ((try clear hN); refine seq_hide fun N hN => ?_) | skip); (try simp (config := { contextual := true, maxSteps := 1000000 }) only [rdH1, uRepr_0, HO.dK.injEq, rdD1, rdB1, rdA1, rdA2, rdA3, rdA4, rdA5, rdS1, rdS2, reduceIte, Nat.reduceSub, Nat.reduceAdd, String.reduceBEq, Int.reducePow, Int.reduceNeg, Int.reduceLT, Int.reduceLE, Int.reduceToNat, Int.reduceMul, Int.reduceAdd, Int.reduceSub, reduceCtorEq, Nat.reduceLeDiff, Nat.reducePow, Nat.reduceLT, Int.reduceAbs])
          refine ⟨_, h2.h, by show (6 : Nat) < 16777216; omega, ?_⟩
          rw [hk2_3]
          have h3 := h2.setH (hk3 pl db ep ly bb pp tu)
          have q3 := q2.trans (Kt.dk (ly := ly) h2.h (.dK (hk3 pl db ep ly bb pp tu)))
          generalize upd J2 hs (HO.dK (hk3 pl db ep ly bb pp tu)) = J3 at h3 q3 ⊢
          (first | refine hN _ _ ?_ | skip); (first | unfold Go | skip); (first | ((try clear hN); refine seq_hide fun N hN => ?_) | skip); (try simp (config := { contextual := true, maxSteps := 1000000 }) only [rdH1, uRepr_0, HO.dK.injEq, rdD1, rdB1, rdA1, rdA2, rdA3, rdA4, rdA5, rdS1, rdS2, reduceIte, Nat.reduceSub, Nat.reduceAdd, String.reduceBEq, Int.reducePow, Int.reduceNeg, Int.reduceLT, Int.reduceLE, Int.reduceToNat, Int.reduceMul, Int.reduceAdd, Int.reduceSub, reduceCtorEq, Nat.reduceLeDiff, Nat.reducePow, Nat.reduceLT, Int.reduceAbs])
          exact q hs bars pieces J3 h3.s h3.nh ⟨_, bb, pp, h3.h, hk3_bars .., hk3_pieces .., q3.2 _ _ ebb bl, q3.2 _ _ epp pl', by omega, by omega, by omega, hbx, hpx⟩
def spBarBy : Sp := fun vs H Q _ => ∃ (a h : Addr) (n : Int) (bars pieces : List Str), vs = [.ref a, .ref h] ∧ Wl H a n ∧ n ≤ 900000 ∧ HouseOk H h bars pieces ∧ h ≠ a ∧
  ∀ (x : Str) (H' : Hp), NmOk 21 x → SameE [a] H H' → Wl H' a (n + 4) → Q (.str x) H'
theorem sc_law_bar_by : FnScope ["_law_well_here", "_law_house_here"] ["_law_well_here", "_law_house_here"] (defScope s_law_bar_by) := ⟨rfl, rfl, rfl, by decide +kernel, rfl, by decide +kernel, by decide +kernel⟩
theorem ok_law_bar_by  {f : Addr} {fd : FuncData} (F : Fun K "_law_bar_by" "_law_bar_by" s_law_bar_by f fd)
    {f__law_draw : Addr} {d__law_draw : FuncData} (G__law_draw : FnOk P w K mg base CX0 1 f__law_draw d__law_draw ["_law_well_here", "_law_many"] spDraw) (b__law_draw : Binds K d__law_draw ["_law_well_here", "_law_many"] []) (k__law_draw : PySem.W.keepIn K (.ref f__law_draw) = true) (m__law_draw : mg "_law_draw" = some (.ref f__law_draw)) (m_len : mg "len" = none) : FnOk P w K mg base CX0 2 f fd ["_law_well_here", "_law_house_here"] spBarBy := by
  refine F.ok sc_law_bar_by (fun vs H Q E h => ?_) (fun cdv A outer s H vs Q E hr h => ?_)
  · obtain ⟨a, h, n, bars, pieces, rfl, hw, hn, hH, ha, q⟩ := h
    rfl
  obtain ⟨a, h, n, bars, pieces, rfl, hw, hn, hH, ha, q⟩ := h
  refine ⟨_, (pss_cons (ps_if (pt_cmpR (u_eq (n := 4) hr.units) (pe_call G__law_draw hr rfl m__law_draw k__law_draw b__law_draw .nil pass0 (pa_cons (pv 0) (pa_cons pe_int pa_nil))) pe_int (nomark _)) (pss_one (ps_ret (pe_ix u_ix (pe_op u_add (pe_dgU (hu_of hr) (pv 1) pe_str (fun _ _ => rfl)) (pe_lst (pa_cons pe_str (pa_cons (pe_op u_add (pe_ix u_ix (pe_dgU (hu_of hr) (pv 1) pe_str (fun _ _ => rfl)) pe_int (fun _ _ => rfl)) pe_str) pa_nil)))) (pe_call G__law_draw hr rfl m__law_draw k__law_draw b__law_draw .nil pass0 (pa_cons (pv 0) (pa_cons (pe_op u_add (pe_callB u_len rfl m_len PySem.boot_len (pa_cons (pe_dgU (hu_of hr) (pv 1) pe_str (fun _ _ => rfl)) pa_nil)) pe_int) pa_nil))) (fun _ _ => rfl)))) pss_nil)
    (pss_one (ps_ret (pe_ix u_ix (pe_dgU (hu_of hr) (pv 1) pe_str (fun _ _ => rfl)) (pe_call G__law_draw hr rfl m__law_draw k__law_draw b__law_draw .nil pass0 (pa_cons (pv 0) (pa_cons (pe_callB u_len rfl m_len PySem.boot_len (pa_cons (pe_dgU (hu_of hr) (pv 1) pe_str (fun _ _ => rfl)) pa_nil)) pa_nil))) (fun _ _ => rfl))))), ?_⟩
  obtain ⟨kvs, b, p, e1, e2, e3, e4, e5, l1, l2, l3, x1, x2⟩ := hH
  (first | ((try clear hN); refine seq_hide fun N hN => ?_) | skip); (try simp (config := { contextual := true, maxSteps := 1000000 }) only [rdH1, uRepr_0, HO.dK.injEq, rdD1, rdB1, rdA1, rdA2, rdA3, rdA4, rdA5, rdS1, rdS2, reduceIte, Nat.reduceSub, Nat.reduceAdd, String.reduceBEq, Int.reducePow, Int.reduceNeg, Int.reduceLT, Int.reduceLE, Int.reduceToNat, Int.reduceMul, Int.reduceAdd, Int.reduceSub, reduceCtorEq, Nat.reduceLeDiff, Nat.reducePow, Nat.reduceLT, Int.reduceAbs])
  refine ⟨a, 20, n, rfl, hw, by omega, by decide, by decide, fun v1 H1 v10 v11 s1 w1 => ?_⟩
  have e11 := s1 _ _ e1 (by simpa using ha)
  have e41 := s1.lst hw.dky e4
  have e51 := s1.lst hw.dky e5
  (first | ((try clear hN); refine seq_hide fun N hN => ?_) | skip); (try simp (config := { contextual := true, maxSteps := 1000000 }) only [rdH1, uRepr_0, HO.dK.injEq, rdD1, rdB1, rdA1, rdA2, rdA3, rdA4, rdA5, rdS1, rdS2, reduceIte, Nat.reduceSub, Nat.reduceAdd, String.reduceBEq, Int.reducePow, Int.reduceNeg, Int.reduceLT, Int.reduceLE, Int.reduceToNat, Int.reduceMul, Int.reduceAdd, Int.reduceSub, reduceCtorEq, Nat.reduceLeDiff, Nat.reducePow, Nat.reduceLT, Int.reduceAbs])
  refine ite2 (fun _ => ?_) (fun _ => ?_)
  · obtain ⟨b0, eb0, _, hb0⟩ := name_at (k := 0) (by decide) (by omega) x1
    (first | ((try clear hN); refine seq_hide fun N hN => ?_) | skip); (try simp (config := { contextual := true, maxSteps := 1000000 }) only [rdH1, uRepr_0, HO.dK.injEq, rdD1, rdB1, rdA1, rdA2, rdA3, rdA4, rdA5, rdS1, rdS2, reduceIte, Nat.reduceSub, Nat.reduceAdd, String.reduceBEq, Int.reducePow, Int.reduceNeg, Int.reduceLT, Int.reduceLE, Int.reduceToNat, Int.reduceMul, Int.reduceAdd, Int.reduceSub, reduceCtorEq, Nat.reduceLeDiff, Nat.reducePow, Nat.reduceLT, Int.reduceAbs, e11, e3, e2, e41, eb0])
    have := hb0.1
    refine ⟨by show _ + 1 ≤ _; omega, ?_⟩
    intro l1' hl1
    have s2 := s1.new hl1 (.lst [V.str "zz", V.str (b0 ++ "q")])
    have w2 := w1.new hl1 (.lst [V.str "zz", V.str (b0 ++ "q")])
    have k2 := same_new hl1 (.lst [V.str "zz", V.str (b0 ++ "q")])
    have el : (upd H1 l1' (.lst [V.str "zz", V.str (b0 ++ "q")])) l1' = _ := upd_same
    generalize upd H1 l1' (.lst [V.str "zz", V.str (b0 ++ "q")]) = H2 at s2 w2 k2 el ⊢
    have e12 := k2 _ _ e11
    have e52 := k2 _ _ e51
    (first | ((try clear hN); refine seq_hide fun N hN => ?_) | skip); (try simp (config := { contextual := true, maxSteps := 1000000 }) only [rdH1, uRepr_0, HO.dK.injEq, rdD1, rdB1, rdA1, rdA2, rdA3, rdA4, rdA5, rdS1, rdS2, reduceIte, Nat.reduceSub, Nat.reduceAdd, String.reduceBEq, Int.reducePow, Int.reduceNeg, Int.reduceLT, Int.reduceLE, Int.reduceToNat, Int.reduceMul, Int.reduceAdd, Int.reduceSub, reduceCtorEq, Nat.reduceLeDiff, Nat.reducePow, Nat.reduceLT, Int.reduceAbs, e52, el])
    refine ⟨by rw [List.length_map]; omega, ?_⟩
    intro l5 hl5
    rw [two_strs]
    refine pick (m := 21) (w2.new hl5 _) (by omega) upd_same (by rw [List.length_map, List.length_append]; rfl) (by rw [List.length_append]; show 0 < _ + 2; omega) (by rw [List.length_append]; show _ + 2 ≤ 100; omega) (ok_two (fun z hz => (x2 z hz).mono (by decide)) (zz_ok (by decide)) (q_ok hb0)) fun x H' ox _ sx wx => q x H' ox ((s2.new hl5 _).trans sx) (wx.mono (by omega))
  · (first | refine hN _ _ ?_ | skip); (first | unfold Go | skip); (first | ((try clear hN); refine seq_hide fun N hN => ?_) | skip); (try simp (config := { contextual := true, maxSteps := 1000000 }) only [rdH1, uRepr_0, HO.dK.injEq, rdD1, rdB1, rdA1, rdA2, rdA3, rdA4, rdA5, rdS1, rdS2, reduceIte, Nat.reduceSub, Nat.reduceAdd, String.reduceBEq, Int.reducePow, Int.reduceNeg, Int.reduceLT, Int.reduceLE, Int.reduceToNat, Int.reduceMul, Int.reduceAdd, Int.reduceSub, reduceCtorEq, Nat.reduceLeDiff, Nat.reducePow, Nat.reduceLT, Int.reduceAbs, e11, e2, e41])
    exact pick (m := 20) w1 (by omega) e41 (by rw [List.length_map]) (by omega) (by omega) x1 fun x H' ox _ sx wx => q x H' (ox.mono (by decide)) (s1.trans sx) (wx.mono (by omega))
theorem sc_law_piece_by : FnScope ["_law_well_here", "_law_house_here"] ["_law_well_here", "_law_house_here"] (defScope s_law_piece_by) := ⟨rfl, rfl, rfl, by decide +kernel, rfl, by decide +kernel, by decide +kernel⟩
theorem ok_law_piece_by  {f : Addr} {fd : FuncData} (F : Fun K "_law_piece_by" "_law_piece_by" s_law_piece_by f fd)
    {f__law_draw : Addr} {d__law_draw : FuncData} (G__law_draw : FnOk P w K mg base CX0 1 f__law_draw d__law_draw ["_law_well_here", "_law_many"] spDraw) (b__law_draw : Binds K d__law_draw ["_law_well_here", "_law_many"] []) (k__law_draw : PySem.W.keepIn K (.ref f__law_draw) = true) (m__law_draw : mg "_law_draw" = some (.ref f__law_draw)) (m_len : mg "len" = none) : FnOk P w K mg base CX0 2 f fd ["_law_well_here", "_law_house_here"] spBarBy := by
  refine F.ok sc_law_piece_by (fun vs H Q E h => ?_) (fun cdv A outer s H vs Q E hr h => ?_)
  · obtain ⟨a, h, n, bars, pieces, rfl, hw, hn, hH, ha, q⟩ := h
    rfl
  obtain ⟨a, h, n, bars, pieces, rfl, hw, hn, hH, ha, q⟩ := h
  refine ⟨_, (pss_cons (ps_if (PW.pt (pw_or (pt_cmpR (u_eq (n := 4) hr.units) (pe_dgU (hu_of hr) (pv 1) pe_str (fun _ _ => rfl)) (pe_lst pa_nil) (nomark _)) (pw_or1 (pt_cmpR (u_eq (n := 4) hr.units) (pe_call G__law_draw hr rfl m__law_draw k__law_draw b__law_draw .nil pass0 (pa_cons (pv 0) (pa_cons pe_int pa_nil))) pe_int (nomark _))))) (pss_one (ps_ret (pe_ix u_ix (pe_op u_add (pe_dgU (hu_of hr) (pv 1) pe_str (fun _ _ => rfl)) (pe_lst (pa_cons pe_str pa_nil))) (pe_call G__law_draw hr rfl m__law_draw k__law_draw b__law_draw .nil pass0 (pa_cons (pv 0) (pa_cons (pe_op u_add (pe_callB u_len rfl m_len PySem.boot_len (pa_cons (pe_dgU (hu_of hr) (pv 1) pe_str (fun _ _ => rfl)) pa_nil)) pe_int) pa_nil))) (fun _ _ => rfl)))) pss_nil)
    (pss_one (ps_ret (pe_ix u_ix (pe_dgU (hu_of hr) (pv 1) pe_str (fun _ _ => rfl)) (pe_call G__law_draw hr rfl m__law_draw k__law_draw b__law_draw .nil pass0 (pa_cons (pv 0) (pa_cons (pe_callB u_len rfl m_len PySem.boot_len (pa_cons (pe_dgU (hu_of hr) (pv 1) pe_str (fun _ _ => rfl)) pa_nil)) pa_nil))) (fun _ _ => rfl))))), ?_⟩
  obtain ⟨kvs, b, p, e1, e2, e3, e4, e5, l1, l2, l3, x1, x2⟩ := id hH
  (first | ((try clear hN); refine seq_hide fun N hN => ?_) | skip); (try simp (config := { contextual := true, maxSteps := 1000000 }) only [rdH1, uRepr_0, HO.dK.injEq, rdD1, rdB1, rdA1, rdA2, rdA3, rdA4, rdA5, rdS1, rdS2, reduceIte, Nat.reduceSub, Nat.reduceAdd, String.reduceBEq, Int.reducePow, Int.reduceNeg, Int.reduceLT, Int.reduceLE, Int.reduceToNat, Int.reduceMul, Int.reduceAdd, Int.reduceSub, reduceCtorEq, Nat.reduceLeDiff, Nat.reducePow, Nat.reduceLT, Int.reduceAbs, e1, e3])
  intro l0 hl0
  have s0 : SameE [a] H (upd H l0 (.lst [])) := SameE.refl.new hl0 _
  have w0 := hw.new hl0 (.lst [])
  have k0 := same_new hl0 (.lst [])
  have el0 : (upd H l0 (.lst [])) l0 = some (.lst []) := upd_same
  generalize upd H l0 (.lst []) = H1 at s0 w0 k0 el0 ⊢
  have odd : ∀ (H2 : Hp) (m : Int), SameE [a] H H2 → Wl H2 a m → m ≤ n + 2 → H2 h = some (.dK kvs) → H2 b = some (.lst (bars.map V.str)) → ∃ x, valV kvs (Sum.inr "bars") = some x ∧ ∀ p, H2 p = none → uAdd x (V.ref p) (upd H2 p (.lst [V.str "zz"])) fun x H1 => ∃ kvs, H1 h = some (HO.dK kvs) ∧ ∃ x_1, valV kvs (Sum.inr "bars") = some x_1 ∧ uLen [x_1] H1 fun x_2 H1 => uAdd x_2 (V.int 1) H1 fun x_3 H1 => spDraw [V.ref a, x_3] H1 (fun y H2 => uIx x y H2 Q) E0 := by
    intro H2 m s2 w2 hm eh ebb
    refine ⟨_, e2, fun p hp => ?_⟩
    have s3 := s2.new hp (.lst [V.str "zz"])
    have w3 := w2.new hp (.lst [V.str "zz"])
    have k3 := same_new hp (.lst [V.str "zz"])
    have ep : (upd H2 p (.lst [V.str "zz"])) p = _ := upd_same
    generalize upd H2 p (.lst [V.str "zz"]) = H3 at s3 w3 k3 ep ⊢
    have eh3 := k3 _ _ eh
    have eb3 := k3 _ _ ebb
    (first | ((try clear hN); refine seq_hide fun N hN => ?_) | skip); (try simp (config := { contextual := true, maxSteps := 1000000 }) only [rdH1, uRepr_0, HO.dK.injEq, rdD1, rdB1, rdA1, rdA2, rdA3, rdA4, rdA5, rdS1, rdS2, reduceIte, Nat.reduceSub, Nat.reduceAdd, String.reduceBEq, Int.reducePow, Int.reduceNeg, Int.reduceLT, Int.reduceLE, Int.reduceToNat, Int.reduceMul, Int.reduceAdd, Int.reduceSub, reduceCtorEq, Nat.reduceLeDiff, Nat.reducePow, Nat.reduceLT, Int.reduceAbs, eb3, ep])
    refine ⟨by rw [List.length_map]; omega, ?_⟩
    intro l5 hl5
    rw [strs_snoc]
    refine ⟨_, same_new hl5 _ _ _ eh3, _, e2, ?_⟩
    have eb4 := same_new hl5 (.lst ((bars ++ [Str.ofString "zz"]).map V.str)) _ _ eb3
    have el4 : (upd H3 l5 (.lst ((bars ++ [Str.ofString "zz"]).map V.str))) l5 = _ := upd_same
    have s4 := s3.new hl5 (.lst ((bars ++ [Str.ofString "zz"]).map V.str))
    have w4 := w3.new hl5 (.lst ((bars ++ [Str.ofString "zz"]).map V.str))
    generalize upd H3 l5 (.lst ((bars ++ [Str.ofString "zz"]).map V.str)) = H4 at eb4 el4 s4 w4 ⊢
    (first | ((try clear hN); refine seq_hide fun N hN => ?_) | skip); (try simp (config := { contextual := true, maxSteps := 1000000 }) only [rdH1, uRepr_0, HO.dK.injEq, rdD1, rdB1, rdA1, rdA2, rdA3, rdA4, rdA5, rdS1, rdS2, reduceIte, Nat.reduceSub, Nat.reduceAdd, String.reduceBEq, Int.reducePow, Int.reduceNeg, Int.reduceLT, Int.reduceLE, Int.reduceToNat, Int.reduceMul, Int.reduceAdd, Int.reduceSub, reduceCtorEq, Nat.reduceLeDiff, Nat.reducePow, Nat.reduceLT, Int.reduceAbs, eb4])
    refine pick (m := 21) w4 (by omega) el4 (by rw [List.length_map, List.length_append]; rfl) (by rw [List.length_append]; show 0 < _ + 1; omega) (by rw [List.length_append]; show _ + 1 ≤ 100; omega) (ok_one (fun z hz => (x1 z hz).mono (by decide)) (zz_ok (by decide))) fun x H' ox _ sx wx => q x H' ox (s4.trans sx) (wx.mono (by omega))
  refine ⟨_, eqT_nil (k0 _ _ e5) el0, ite2 (fun _ => ?_) (fun hne => ?_)⟩
  · exact odd H1 n s0 w0 (by omega) (k0 _ _ e1) (k0 _ _ e4)
  · refine ⟨a, 20, n, rfl, w0, by omega, by decide, by decide, fun v1 H2 v10 v11 s1 w1 => ?_⟩
    have e12 := s1 _ _ (k0 _ _ e1) (by simpa using ha)
    (first | ((try clear hN); refine seq_hide fun N hN => ?_) | skip); (try simp (config := { contextual := true, maxSteps := 1000000 }) only [rdH1, uRepr_0, HO.dK.injEq, rdD1, rdB1, rdA1, rdA2, rdA3, rdA4, rdA5, rdS1, rdS2, reduceIte, Nat.reduceSub, Nat.reduceAdd, String.reduceBEq, Int.reducePow, Int.reduceNeg, Int.reduceLT, Int.reduceLE, Int.reduceToNat, Int.reduceMul, Int.reduceAdd, Int.reduceSub, reduceCtorEq, Nat.reduceLeDiff, Nat.reducePow, Nat.reduceLT, Int.reduceAbs])
    refine ite2 (fun _ => ⟨_, e12, odd H2 (n + 1) (s0.trans s1) w1 (by omega) e12 (s1.lst w0.dky (k0 _ _ e4))⟩) (fun _ => ?_)
    (first | refine hN _ _ ?_ | skip); (first | unfold Go | skip); (first | ((try clear hN); refine seq_hide fun N hN => ?_) | skip); (try simp (config := { contextual := true, maxSteps := 1000000 }) only [rdH1, uRepr_0, HO.dK.injEq, rdD1, rdB1, rdA1, rdA2, rdA3, rdA4, rdA5, rdS1, rdS2, reduceIte, Nat.reduceSub, Nat.reduceAdd, String.reduceBEq, Int.reducePow, Int.reduceNeg, Int.reduceLT, Int.reduceLE, Int.reduceToNat, Int.reduceMul, Int.reduceAdd, Int.reduceSub, reduceCtorEq, Nat.reduceLeDiff, Nat.reducePow, Nat.reduceLT, Int.reduceAbs, e12, e3])
    have e52 := s1.lst w0.dky (k0 _ _ e5)
    refine ⟨_, by rw [e52]; rfl, ?_⟩
    have np : 0 < pieces.length := List.length_pos_iff.mpr (fun z => hne (by rw [z]; rfl))
    exact pick (m := 20) w1 (by omega) e52 (by rw [List.length_map]) np (by omega) x2 fun x H' ox _ sx wx => q x H' (ox.mono (by decide)) ((s0.trans s1).trans sx) (wx.mono (by omega))
def spMoves : Sp := fun vs H Q _ => ∃ (a h : Addr) (n : Int) (bars pieces : List Str), vs = [.ref a, .ref h] ∧ Wl H a n ∧ n ≤ 900000 ∧ HouseOk H h bars pieces ∧ h ≠ a ∧
  ∀ (r : Addr) (xs : List V) (ms : List (Str × Int)) (H' : Hp), SameE [a] H H' → Wl H' a (n + 20) → H r = none → H' r = some (.lst xs) → All2 (MvAt H') xs ms → Deed.Ok (.turn ms) → Q (.ref r) H'
theorem sc_law_moves : FnScope ["_law_well_here", "_law_house_here", "_law_moves_here", "_law_first", "_law_k", "_law_bar", "_law_odd"] ["_law_well_here", "_law_house_here"] (defScope s_law_moves) := ⟨rfl, rfl, rfl, by decide +kernel, rfl, by decide +kernel, by decide +kernel⟩
theorem ok_law_moves  {f : Addr} {fd : FuncData} (F : Fun K "_law_moves" "_law_moves" s_law_moves f fd)
    {f__law_draw : Addr} {d__law_draw : FuncData} (G__law_draw : FnOk P w K mg base CX0 1 f__law_draw d__law_draw ["_law_well_here", "_law_many"] spDraw) (b__law_draw : Binds K d__law_draw ["_law_well_here", "_law_many"] []) (k__law_draw : PySem.W.keepIn K (.ref f__law_draw) = true) (m__law_draw : mg "_law_draw" = some (.ref f__law_draw)) (m_len : mg "len" = none) (m_range : mg "range" = none) : FnOk P w K mg base CX0 2 f fd ["_law_well_here", "_law_house_here"] spMoves := by
  refine F.ok sc_law_moves (fun vs H Q E h => ?_) (fun cdv A outer s H vs Q E hr h => ?_)
  · obtain ⟨a, h, n, bars, pieces, rfl, hw, hn, hH, ha, q⟩ := h
    rfl
  obtain ⟨a, h, n, bars, pieces, rfl, hw, hn, hH, ha, q⟩ := h
  refine ⟨_, (pss_cons (ps_set (i := 2) sc_law_moves.nd rfl (Or.inl rfl) (pe_lst pa_nil))
    (pss_cons (ps_set (i := 3) sc_law_moves.nd rfl (Or.inl rfl) (pe_call G__law_draw hr rfl m__law_draw k__law_draw b__law_draw .nil pass0 (pa_cons (pv 0) (pa_cons (pe_callB u_len rfl m_len PySem.boot_len (pa_cons (pe_dgU (hu_of hr) (pv 1) pe_str (fun _ _ => rfl)) pa_nil)) pa_nil))))
    (pss_cons (ps_for PassesOwn.never rfl (pi_range1 rfl m_range (pa_cons (pe_op u_add pe_int (pe_call G__law_draw hr rfl m__law_draw k__law_draw b__law_draw .nil pass0 (pa_cons (pv 0) (pa_cons (pe_callB u_len rfl m_len PySem.boot_len (pa_cons (pe_dgU (hu_of hr) (pv 1) pe_str (fun _ _ => rfl)) pa_nil)) pa_nil)))) pa_nil)) (pg_name (i := 4) sc_law_moves.nd rfl (Or.inl rfl)) (pss_blk (pss_cons (ps_set (i := 5) sc_law_moves.nd rfl (Or.inl rfl) (pe_ix u_ix (pe_dgU (hu_of hr) (pv 1) pe_str (fun _ _ => rfl)) (pe_op op_mod (pe_op u_add (pv 3) (pv 4)) (pe_callB u_len rfl m_len PySem.boot_len (pa_cons (pe_dgU (hu_of hr) (pv 1) pe_str (fun _ _ => rfl)) pa_nil))) (fun _ _ => rfl)))
    (pss_one (ps_expr (pe_bm PySem.F.plainAttrs_list PySem.F.slot_list_append PySem.F.type_list_append u_app (pv 2) (pa_cons (pe_tup (pa_cons (pv 5) (pa_cons (pe_op op_sub pe_int (pe_op u_mul pe_int (pe_call G__law_draw hr rfl m__law_draw k__law_draw b__law_draw .nil pass0 (pa_cons (pv 0) (pa_cons pe_int pa_nil))))) pa_nil))) pa_nil)))))))
    (pss_cons (ps_for PassesOwn.never rfl (pi_list (pe_lst (pa_cons (pe_op u_add (pe_ix u_ix (pe_dgU (hu_of hr) (pv 1) pe_str (fun _ _ => rfl)) pe_int (fun _ _ => rfl)) pe_str) (pa_cons pe_str pa_nil)))) (pg_name (i := 6) sc_law_moves.nd rfl (Or.inl rfl)) (pss_one (ps_if (PW.pt (pw_and (pt_cmpR (u_eq (n := 4) hr.units) (pe_call G__law_draw hr rfl m__law_draw k__law_draw b__law_draw .nil pass0 (pa_cons (pv 0) (pa_cons pe_int pa_nil))) pe_int (nomark _)) (pw_and1 (pt_cmpR u_nin (pv 6) (pe_dgU (hu_of hr) (pv 1) pe_str (fun _ _ => rfl)) (by with_unfolding_all rfl))))) (pss_one (ps_expr (pe_bm PySem.F.plainAttrs_list PySem.F.slot_list_insert PySem.F.type_list_insert u_ins (pv 2) (pa_cons (pe_call G__law_draw hr rfl m__law_draw k__law_draw b__law_draw .nil pass0 (pa_cons (pv 0) (pa_cons (pe_op u_add (pe_callB u_len rfl m_len PySem.boot_len (pa_cons (pv 2) pa_nil)) pe_int) pa_nil))) (pa_cons (pe_tup (pa_cons (pv 6) (pa_cons pe_int pa_nil))) pa_nil))))) pss_nil)))
    (pss_one (ps_ret (pv 2))))))), ?_⟩
  obtain ⟨kvs, b, p, e1, e2, e3, e4, e5, l1, l2, l3, x1, x2⟩ := id hH
  (first | ((try clear hN); refine seq_hide fun N hN => ?_) | skip); (try simp (config := { contextual := true, maxSteps := 1000000 }) only [rdH1, uRepr_0, HO.dK.injEq, rdD1, rdB1, rdA1, rdA2, rdA3, rdA4, rdA5, rdS1, rdS2, reduceIte, Nat.reduceSub, Nat.reduceAdd, String.reduceBEq, Int.reducePow, Int.reduceNeg, Int.reduceLT, Int.reduceLE, Int.reduceToNat, Int.reduceMul, Int.reduceAdd, Int.reduceSub, reduceCtorEq, Nat.reduceLeDiff, Nat.reducePow, Nat.reduceLT, Int.reduceAbs])
  intro r hr
  have s0 : SameE [a] H (upd H r (.lst [])) := SameE.refl.new hr _
  have w0 := hw.new hr (.lst [])
  have hH0 := hH.new hr (.lst [])
  have er : (upd H r (.lst [])) r = some (.lst []) := upd_same
  have kb := same_new hr (.lst []) _ _ e4
  have kh := same_new hr (.lst []) _ _ e1
  (first | refine hN _ _ ?_ | skip); (first | unfold Go | skip); (first | ((try clear hN); refine seq_hide fun N hN => ?_) | skip); (try simp (config := { contextual := true, maxSteps := 1000000 }) only [rdH1, uRepr_0, HO.dK.injEq, rdD1, rdB1, rdA1, rdA2, rdA3, rdA4, rdA5, rdS1, rdS2, reduceIte, Nat.reduceSub, Nat.reduceAdd, String.reduceBEq, Int.reducePow, Int.reduceNeg, Int.reduceLT, Int.reduceLE, Int.reduceToNat, Int.reduceMul, Int.reduceAdd, Int.reduceSub, reduceCtorEq, Nat.reduceLeDiff, Nat.reducePow, Nat.reduceLT, Int.reduceAbs])
  generalize upd H r (.lst []) = H1 at s0 w0 hH0 er kb kh ⊢
  (first | ((try clear hN); refine seq_hide fun N hN => ?_) | skip); (try simp (config := { contextual := true, maxSteps := 1000000 }) only [rdH1, uRepr_0, HO.dK.injEq, rdD1, rdB1, rdA1, rdA2, rdA3, rdA4, rdA5, rdS1, rdS2, reduceIte, Nat.reduceSub, Nat.reduceAdd, String.reduceBEq, Int.reducePow, Int.reduceNeg, Int.reduceLT, Int.reduceLE, Int.reduceToNat, Int.reduceMul, Int.reduceAdd, Int.reduceSub, reduceCtorEq, Nat.reduceLeDiff, Nat.reducePow, Nat.reduceLT, Int.reduceAbs, kh, e2, kb])
  refine ⟨a, _, n, rfl, w0, by omega, by rw [List.length_map]; omega, by unfold big60; rw [List.length_map]; omega, fun fi H2 fi0 fi1 s2 w2 => ?_⟩
  have kb2 := s2.lst w0.dky kb
  have kh2 := s2 _ _ kh (by simpa using ha)
  have er2 := s2.lst w0.dky er
  (first | refine hN _ _ ?_ | skip); (first | unfold Go | skip); (first | ((try clear hN); refine seq_hide fun N hN => ?_) | skip); (try simp (config := { contextual := true, maxSteps := 1000000 }) only [rdH1, uRepr_0, HO.dK.injEq, rdD1, rdB1, rdA1, rdA2, rdA3, rdA4, rdA5, rdS1, rdS2, reduceIte, Nat.reduceSub, Nat.reduceAdd, String.reduceBEq, Int.reducePow, Int.reduceNeg, Int.reduceLT, Int.reduceLE, Int.reduceToNat, Int.reduceMul, Int.reduceAdd, Int.reduceSub, reduceCtorEq, Nat.reduceLeDiff, Nat.reducePow, Nat.reduceLT, Int.reduceAbs, kh2, e2, kb2])
  refine ⟨a, _, _, rfl, w2, by omega, by rw [List.length_map]; omega, by unfold big60; rw [List.length_map]; omega, fun mi H3 mi0 mi1 s3 w3 => ?_⟩
  have kb3 := s3.lst w2.dky kb2
  have kh3 := s3 _ _ kh2 (by simpa using ha)
  have er3 := s3.lst w2.dky er2
  have s03 := (s0.trans s2).trans s3
  rw [List.length_map] at mi1 fi1
  have ms3 : MS a h b r kvs bars H H3 (n + 2) [] [] := ⟨s03, w3.mono (by omega), kh3, kb3, er3, .nil, fun m hm => by cases hm⟩
  have br : b ≠ r := ne_of_none e4 hr
  clear s03 w3 kh3 kb3 er3 s3 w2 s2 kb2 kh2 er2 kb kh er hH0 w0 s0
  (first | ((try clear hN); refine seq_hide fun N hN => ?_) | skip); (try simp (config := { contextual := true, maxSteps := 1000000 }) only [rdH1, uRepr_0, HO.dK.injEq, rdD1, rdB1, rdA1, rdA2, rdA3, rdA4, rdA5, rdS1, rdS2, reduceIte, Nat.reduceSub, Nat.reduceAdd, String.reduceBEq, Int.reducePow, Int.reduceNeg, Int.reduceLT, Int.reduceLE, Int.reduceToNat, Int.reduceMul, Int.reduceAdd, Int.reduceSub, reduceCtorEq, Nat.reduceLeDiff, Nat.reducePow, Nat.reduceLT, Int.reduceAbs])
  refine ⟨by omega, by omega, ?_⟩
  refine loop_range (fun i σ H' => ∃ (xs : List V) (ms : List (Str × Int)) (v4 v5 : Option V), σ = [some (V.ref a), some (V.ref h), some (V.ref r), some (V.int fi), v4, v5, none] ∧ MS a h b r kvs bars H H' (n + 2 + i) xs ms ∧ ms.length ≤ i) ⟨[], [], none, none, rfl, ms3.mono (by omega), Nat.le_refl _⟩ ?_ ?_
  · rintro i σ H' hi ⟨xs, ms, v4, v5, rfl, mm, hl⟩
    (first | ((try clear hN); refine seq_hide fun N hN => ?_) | skip); (try simp (config := { contextual := true, maxSteps := 1000000 }) only [rdH1, uRepr_0, HO.dK.injEq, rdD1, rdB1, rdA1, rdA2, rdA3, rdA4, rdA5, rdS1, rdS2, reduceIte, Nat.reduceSub, Nat.reduceAdd, String.reduceBEq, Int.reducePow, Int.reduceNeg, Int.reduceLT, Int.reduceLE, Int.reduceToNat, Int.reduceMul, Int.reduceAdd, Int.reduceSub, reduceCtorEq, Nat.reduceLeDiff, Nat.reducePow, Nat.reduceLT, Int.reduceAbs, mm.kh, e2, mm.kb])
    obtain ⟨bn, eb, _, hb⟩ := name_at (k := (fi + (0 + (i : Int))) % (bars.length : Int)) (Int.emod_nonneg _ (by omega)) (Int.emod_lt_of_pos _ (by omega)) x1
    refine ⟨by rw [List.length_map]; omega, _, by rw [List.length_map]; exact eb, ?_⟩
    (first | refine hN _ _ ?_ | skip); (first | unfold Go | skip); (first | ((try clear hN); refine seq_hide fun N hN => ?_) | skip); (try simp (config := { contextual := true, maxSteps := 1000000 }) only [rdH1, uRepr_0, HO.dK.injEq, rdD1, rdB1, rdA1, rdA2, rdA3, rdA4, rdA5, rdS1, rdS2, reduceIte, Nat.reduceSub, Nat.reduceAdd, String.reduceBEq, Int.reducePow, Int.reduceNeg, Int.reduceLT, Int.reduceLE, Int.reduceToNat, Int.reduceMul, Int.reduceAdd, Int.reduceSub, reduceCtorEq, Nat.reduceLeDiff, Nat.reducePow, Nat.reduceLT, Int.reduceAbs])
    refine ⟨tyV_lst mm.kr, a, 2, _, rfl, mm.w, by omega, by decide, by decide, fun st H5 st0 st1 s5 w5 => ?_⟩
    have mm5 := mm.draw s5 w5 ha
    (first | ((try clear hN); refine seq_hide fun N hN => ?_) | skip); (try simp (config := { contextual := true, maxSteps := 1000000 }) only [rdH1, uRepr_0, HO.dK.injEq, rdD1, rdB1, rdA1, rdA2, rdA3, rdA4, rdA5, rdS1, rdS2, reduceIte, Nat.reduceSub, Nat.reduceAdd, String.reduceBEq, Int.reducePow, Int.reduceNeg, Int.reduceLT, Int.reduceLE, Int.reduceToNat, Int.reduceMul, Int.reduceAdd, Int.reduceSub, reduceCtorEq, Nat.reduceLeDiff, Nat.reducePow, Nat.reduceLT, Int.reduceAbs])
    intro p hp
    have mm6 := mm5.new hp (.tup [V.str bn, V.int (1 - 2 * st)])
    have ep : (upd H5 p (.tup [V.str bn, V.int (1 - 2 * st)])) p = _ := upd_same
    generalize upd H5 p (.tup [V.str bn, V.int (1 - 2 * st)]) = H6 at mm6 ep ⊢
    have hl2 := mm.mv.len
    refine ⟨_, mm6.kr, by omega, xs ++ [V.ref p], ms ++ [(bn, 1 - 2 * st)], (mm6.put hr br (mm6.mv.app (.one ⟨p, rfl, ep⟩)) fun m hm => ?_).mono (by omega), by rw [List.length_append]; show _ + 1 ≤ _; omega⟩
    rcases List.mem_append.mp hm with hm | hm
    · exact mm6.ok m hm
    · rw [List.mem_singleton.mp hm]; exact ⟨hb.mono (by decide), by show 1 - 2 * st = 1 ∨ 1 - 2 * st = -1; omega⟩
  · rintro σ H4 ⟨xs, ms, v4, v5, rfl, mm, hl⟩
    obtain ⟨b0, eb0, _, hb0⟩ := name_at (k := 0) (by decide) (by omega) x1
    have hq := q_ok hb0
    (first | refine hN _ _ ?_ | skip); (first | unfold Go | skip); (first | ((try clear hN); refine seq_hide fun N hN => ?_) | skip); (try simp (config := { contextual := true, maxSteps := 1000000 }) only [rdH1, uRepr_0, HO.dK.injEq, rdD1, rdB1, rdA1, rdA2, rdA3, rdA4, rdA5, rdS1, rdS2, reduceIte, Nat.reduceSub, Nat.reduceAdd, String.reduceBEq, Int.reducePow, Int.reduceNeg, Int.reduceLT, Int.reduceLE, Int.reduceToNat, Int.reduceMul, Int.reduceAdd, Int.reduceSub, reduceCtorEq, Nat.reduceLeDiff, Nat.reducePow, Nat.reduceLT, Int.reduceAbs, mm.kh, e2, mm.kb, eb0])
    have := hb0.1
    refine ⟨by show _ + 1 ≤ _; omega, ?_⟩
    intro lo hlo
    have mm5 := (mm.new hlo (.lst [V.str (b0 ++ "q"), V.str "zz"])).mono (m := n + 10) (by omega)
    have el : (upd H4 lo (.lst [V.str (b0 ++ "q"), V.str "zz"])) lo = some (.lst ([b0 ++ "q", "zz"].map V.str)) := upd_same
    have lor : lo ≠ r := (ne_of_none mm.kr hlo).symm
    generalize upd H4 lo (.lst [V.str (b0 ++ "q"), V.str "zz"]) = H5 at mm5 el ⊢
    refine loop_list (xs := [b0 ++ "q", "zz"].map V.str) (fun i σ H' => ∃ (xs : List V) (ms : List (Str × Int)) (v6 : Option V), σ = [some (V.ref a), some (V.ref h), some (V.ref r), some (V.int fi), v4, v5, v6] ∧ MS a h b r kvs bars H H' (n + 10 + 2 * i) xs ms ∧ ms.length ≤ 10 + i ∧ H' lo = some (.lst ([b0 ++ "q", "zz"].map V.str))) ⟨xs, ms, none, rfl, mm5.mono (by omega), by omega, el⟩ (fun i σ H' _ ⟨_, _, _, _, _, _, z⟩ => z) ?_ ?_
    · rintro i x σ H' hx ⟨xs, ms, v6, rfl, mm, hl, el⟩
      obtain ⟨y, ey, rfl⟩ := str_nth hx
      have hi : i < 2 := (List.getElem?_eq_some_iff.mp ey).1
      have oy : NmOk 21 y := by
        rcases (show i = 0 ∨ i = 1 by omega) with rfl | rfl
        · cases ey; exact hq
        · cases ey; exact zz_ok (by decide)
      (first | ((try clear hN); refine seq_hide fun N hN => ?_) | skip); (try simp (config := { contextual := true, maxSteps := 1000000 }) only [rdH1, uRepr_0, HO.dK.injEq, rdD1, rdB1, rdA1, rdA2, rdA3, rdA4, rdA5, rdS1, rdS2, reduceIte, Nat.reduceSub, Nat.reduceAdd, String.reduceBEq, Int.reducePow, Int.reduceNeg, Int.reduceLT, Int.reduceLE, Int.reduceToNat, Int.reduceMul, Int.reduceAdd, Int.reduceSub, reduceCtorEq, Nat.reduceLeDiff, Nat.reducePow, Nat.reduceLT, Int.reduceAbs])
      refine ⟨a, 20, _, rfl, mm.w, by omega, by decide, by decide, fun st H6 st0 st1 s6 w6 => ?_⟩
      have mm6 := mm.draw s6 w6 ha
      have el6 := s6.lst mm.w.dky el
      (first | ((try clear hN); refine seq_hide fun N hN => ?_) | skip); (try simp (config := { contextual := true, maxSteps := 1000000 }) only [rdH1, uRepr_0, HO.dK.injEq, rdD1, rdB1, rdA1, rdA2, rdA3, rdA4, rdA5, rdS1, rdS2, reduceIte, Nat.reduceSub, Nat.reduceAdd, String.reduceBEq, Int.reducePow, Int.reduceNeg, Int.reduceLT, Int.reduceLE, Int.reduceToNat, Int.reduceMul, Int.reduceAdd, Int.reduceSub, reduceCtorEq, Nat.reduceLeDiff, Nat.reducePow, Nat.reduceLT, Int.reduceAbs, mm6.kh, e2, mm6.kb])
      refine ite2 (fun _ => ⟨rfl, strs_flat _, ite2 (fun _ => ⟨tyV_lst mm6.kr, _, by rw [mm6.kr]; rfl, ?_⟩) (fun _ => ⟨xs, ms, mm6.mono (by omega), by omega, el6⟩)⟩) (fun _ => ⟨xs, ms, mm6.mono (by omega), by omega, el6⟩)
      have hl2 := mm.mv.len
      refine ⟨a, _, _, rfl, mm6.w, by omega, by omega, by unfold big60; omega, fun k H7 k0 k1 s7 w7 => ?_⟩
      have mm7 := mm6.draw s7 w7 ha
      have el7 := s7.lst mm6.w.dky el6
      intro p hp
      have mm8 := mm7.new hp (.tup [V.str y, V.int 1])
      have el8 := same_new hp (.tup [V.str y, V.int 1]) _ _ el7
      have ep : (upd H7 p (.tup [V.str y, V.int 1])) p = _ := upd_same
      generalize upd H7 p (.tup [V.str y, V.int 1]) = H8 at mm8 el8 ep ⊢
      obtain ⟨ks, ak, lk, mk⟩ := mm8.mv.ins k (v := .ref p) (y := (y, 1)) ⟨p, rfl, ep⟩
      refine ⟨_, mm8.kr, by show _ < 16777216; omega, k0, by omega, _, ks, (mm8.put hr br ak fun m hm => ?_).mono (by omega), by omega, by rw [upd_ne lor]; exact el8⟩
      rcases mk m hm with rfl | hm
      · exact ⟨oy, .inl rfl⟩
      · exact mm8.ok m hm
    · rintro σ H6 ⟨xs, ms, v6, rfl, mm, hl, el⟩
      (first | refine hN _ _ ?_ | skip); (first | unfold Go | skip); (first | ((try clear hN); refine seq_hide fun N hN => ?_) | skip); (try simp (config := { contextual := true, maxSteps := 1000000 }) only [rdH1, uRepr_0, HO.dK.injEq, rdD1, rdB1, rdA1, rdA2, rdA3, rdA4, rdA5, rdS1, rdS2, reduceIte, Nat.reduceSub, Nat.reduceAdd, String.reduceBEq, Int.reducePow, Int.reduceNeg, Int.reduceLT, Int.reduceLE, Int.reduceToNat, Int.reduceMul, Int.reduceAdd, Int.reduceSub, reduceCtorEq, Nat.reduceLeDiff, Nat.reducePow, Nat.reduceLT, Int.reduceAbs])
      exact q r xs ms H6 mm.s (mm.w.mono (by show n + 10 + 2 * ((2 : Nat) : Int) ≤ _; omega)) hr mm.kr mm.mv ⟨hl, mm.ok⟩
def spDeedBy : Sp := fun vs H Q _ => ∃ (a h ww : Addr) (n : Int) (bars pieces : List Str), vs = [.ref a, .ref h, .ref ww] ∧ Wl H a n ∧ n ≤ 800000 ∧ HouseOk H h bars pieces ∧ h ≠ a ∧ H ww = some (.lst (ways8.map V.str)) ∧
  ∀ (v : V) (D : Deed) (H' : Hp), SameE [a] H H' → Wl H' a (n + 40) → DeedAt H H' v D → D.Ok → Q v H'
theorem ways_at {k : Int} (h0 : 0 ≤ k) (h1 : k < 8) : ∃ x, atI (ways8.map V.str) k = some (.str x) ∧ (x = "turn" ∨ x ∈ six) := by
  have hx : ∀ x ∈ ways8, x = "turn" ∨ x ∈ six := by decide +kernel
  refine ⟨ways8[k.toNat]'(by show k.toNat < 8; omega), by rw [atI_map, atI_in h0 (by show k < 8; omega)]; rfl, hx _ (List.getElem_mem _)⟩
theorem sc_law_deed_by : FnScope ["_law_well_here", "_law_house_here", "_law_ways", "_law_word", "_law_bar"] ["_law_well_here", "_law_house_here", "_law_ways"] (defScope s_law_deed_by) := ⟨rfl, rfl, rfl, by decide +kernel, rfl, by decide +kernel, by decide +kernel⟩
theorem ok_law_deed_by  {f : Addr} {fd : FuncData} (F : Fun K "_law_deed_by" "_law_deed_by" s_law_deed_by f fd)
    {f__law_piece_by : Addr} {d__law_piece_by : FuncData} (G__law_piece_by : FnOk P w K mg base CX0 2 f__law_piece_by d__law_piece_by ["_law_well_here", "_law_house_here"] spBarBy) (b__law_piece_by : Binds K d__law_piece_by ["_law_well_here", "_law_house_here"] []) (k__law_piece_by : PySem.W.keepIn K (.ref f__law_piece_by) = true) (m__law_piece_by : mg "_law_piece_by" = some (.ref f__law_piece_by))
    {f__law_bar_by : Addr} {d__law_bar_by : FuncData} (G__law_bar_by : FnOk P w K mg base CX0 2 f__law_bar_by d__law_bar_by ["_law_well_here", "_law_house_here"] spBarBy) (b__law_bar_by : Binds K d__law_bar_by ["_law_well_here", "_law_house_here"] []) (k__law_bar_by : PySem.W.keepIn K (.ref f__law_bar_by) = true) (m__law_bar_by : mg "_law_bar_by" = some (.ref f__law_bar_by))
    {f__law_moves : Addr} {d__law_moves : FuncData} (G__law_moves : FnOk P w K mg base CX0 2 f__law_moves d__law_moves ["_law_well_here", "_law_house_here"] spMoves) (b__law_moves : Binds K d__law_moves ["_law_well_here", "_law_house_here"] []) (k__law_moves : PySem.W.keepIn K (.ref f__law_moves) = true) (m__law_moves : mg "_law_moves" = some (.ref f__law_moves))
    {f__law_draw : Addr} {d__law_draw : FuncData} (G__law_draw : FnOk P w K mg base CX0 2 f__law_draw d__law_draw ["_law_well_here", "_law_many"] spDraw) (b__law_draw : Binds K d__law_draw ["_law_well_here", "_law_many"] []) (k__law_draw : PySem.W.keepIn K (.ref f__law_draw) = true) (m__law_draw : mg "_law_draw" = some (.ref f__law_draw)) (m_len : mg "len" = none) : FnOk P w K mg base CX0 3 f fd ["_law_well_here", "_law_house_here", "_law_ways"] spDeedBy := by
  refine F.ok sc_law_deed_by (fun vs H Q E h => ?_) (fun cdv A outer s H vs Q E hr h => ?_)
  · obtain ⟨a, h, ww, n, bars, pieces, rfl, hw, hn, hH, ha, ew, q⟩ := h
    rfl
  obtain ⟨a, h, ww, n, bars, pieces, rfl, hw, hn, hH, ha, ew, q⟩ := h
  refine ⟨_, (pss_cons (ps_set (i := 3) sc_law_deed_by.nd rfl (Or.inl rfl) (pe_ix u_ix (pv 2) (pe_call G__law_draw hr rfl m__law_draw k__law_draw b__law_draw .nil pass0 (pa_cons (pv 0) (pa_cons (pe_callB u_len rfl m_len PySem.boot_len (pa_cons (pv 2) pa_nil)) pa_nil))) (fun _ _ => rfl)))
    (pss_cons (ps_if (pt_cmpR (u_eq (n := 4) hr.units) (pv 3) pe_str (nomark _)) (pss_one (ps_ret (pe_tup (pa_cons pe_str (pa_cons (pe_call G__law_moves hr rfl m__law_moves k__law_moves b__law_moves .nil pass0 (pa_cons (pv 0) (pa_cons (pv 1) pa_nil))) pa_nil))))) pss_nil)
    (pss_cons (ps_set (i := 4) sc_law_deed_by.nd rfl (Or.inl rfl) (pe_call G__law_bar_by hr rfl m__law_bar_by k__law_bar_by b__law_bar_by .nil pass0 (pa_cons (pv 0) (pa_cons (pv 1) pa_nil))))
    (pss_cons (ps_if (PW.pt (pw_or (pt_cmpR (u_eq (n := 4) hr.units) (pv 3) pe_str (nomark _)) (pw_or1 (pt_cmpR (u_eq (n := 4) hr.units) (pv 3) pe_str (nomark _))))) (pss_one (ps_ret (pe_tup (pa_cons (pv 3) (pa_cons (pv 4) (pa_cons (pe_call G__law_piece_by hr rfl m__law_piece_by k__law_piece_by b__law_piece_by .nil pass0 (pa_cons (pv 0) (pa_cons (pv 1) pa_nil))) pa_nil)))))) pss_nil)
    (pss_one (ps_ret (pe_tup (pa_cons (pv 3) (pa_cons (pv 4) pa_nil))))))))), ?_⟩
  (first | ((try clear hN); refine seq_hide fun N hN => ?_) | skip); (try simp (config := { contextual := true, maxSteps := 1000000 }) only [rdH1, uRepr_0, HO.dK.injEq, rdD1, rdB1, rdA1, rdA2, rdA3, rdA4, rdA5, rdS1, rdS2, reduceIte, Nat.reduceSub, Nat.reduceAdd, String.reduceBEq, Int.reducePow, Int.reduceNeg, Int.reduceLT, Int.reduceLE, Int.reduceToNat, Int.reduceMul, Int.reduceAdd, Int.reduceSub, reduceCtorEq, Nat.reduceLeDiff, Nat.reducePow, Nat.reduceLT, Int.reduceAbs, ew])
  refine ⟨a, _, n, rfl, hw, by omega, by decide, by decide, fun k H1 k0 k1 s1 w1 => ?_⟩
  have ew1 := s1.lst hw.dky ew
  have hH1 := hH.keep s1 hw ha
  obtain ⟨x, ex, hx⟩ := ways_at k0 k1
  (first | ((try clear hN); refine seq_hide fun N hN => ?_) | skip); (try simp (config := { contextual := true, maxSteps := 1000000 }) only [rdH1, uRepr_0, HO.dK.injEq, rdD1, rdB1, rdA1, rdA2, rdA3, rdA4, rdA5, rdS1, rdS2, reduceIte, Nat.reduceSub, Nat.reduceAdd, String.reduceBEq, Int.reducePow, Int.reduceNeg, Int.reduceLT, Int.reduceLE, Int.reduceToNat, Int.reduceMul, Int.reduceAdd, Int.reduceSub, reduceCtorEq, Nat.reduceLeDiff, Nat.reducePow, Nat.reduceLT, Int.reduceAbs, ew1, ex])
  (first | refine hN _ _ ?_ | skip); (first | unfold Go | skip); (first | ((try clear hN); refine seq_hide fun N hN => ?_) | skip); (try simp (config := { contextual := true, maxSteps := 1000000 }) only [rdH1, uRepr_0, HO.dK.injEq, rdD1, rdB1, rdA1, rdA2, rdA3, rdA4, rdA5, rdS1, rdS2, reduceIte, Nat.reduceSub, Nat.reduceAdd, String.reduceBEq, Int.reducePow, Int.reduceNeg, Int.reduceLT, Int.reduceLE, Int.reduceToNat, Int.reduceMul, Int.reduceAdd, Int.reduceSub, reduceCtorEq, Nat.reduceLeDiff, Nat.reducePow, Nat.reduceLT, Int.reduceAbs])
  refine ite2 (fun _ => ?_) (fun hne => ?_)
  · refine ⟨a, h, _, bars, pieces, rfl, w1, by omega, hH1, ha, fun r xs ms H2 s2 w2 nr er mv ok => fun p hp => ?_⟩
    exact q (.ref p) (.turn ms) _ ((s1.trans s2).new hp _) ((w2.new hp _).mono (by omega)) ⟨p, r, xs, rfl, upd_same, same_new hp _ _ _ er, noneE s1 nr (w1.notin nr), mv.imp fun _ _ z => z.tup fun b xs e => same_new hp _ _ _ e⟩ ok
  · have x6 : x ∈ six := hx.resolve_left hne
    (first | refine hN _ _ ?_ | skip); (first | unfold Go | skip); (first | ((try clear hN); refine seq_hide fun N hN => ?_) | skip); (try simp (config := { contextual := true, maxSteps := 1000000 }) only [rdH1, uRepr_0, HO.dK.injEq, rdD1, rdB1, rdA1, rdA2, rdA3, rdA4, rdA5, rdS1, rdS2, reduceIte, Nat.reduceSub, Nat.reduceAdd, String.reduceBEq, Int.reducePow, Int.reduceNeg, Int.reduceLT, Int.reduceLE, Int.reduceToNat, Int.reduceMul, Int.reduceAdd, Int.reduceSub, reduceCtorEq, Nat.reduceLeDiff, Nat.reducePow, Nat.reduceLT, Int.reduceAbs])
    refine ⟨a, h, _, bars, pieces, rfl, w1, by omega, hH1, ha, fun y H2 oy s2 w2 => ?_⟩
    have hH2 := hH1.keep s2 w1 ha
    have s12 := s1.trans s2
    have th : ∀ x ∈ six, spBarBy [V.ref a, V.ref h] H2 (fun z H1 => ∀ (p : Addr), H1 p = none → Q (V.ref p) (upd H1 p (HO.tup [V.str x, V.str y, z]))) E0 := fun x hx => by
      refine ⟨a, h, _, bars, pieces, rfl, w2, by omega, hH2, ha, fun z H3 oz s3 w3 => fun p hp => ?_⟩
      exact q (.ref p) (.three x y z) _ ((s12.trans s3).new hp _) ((w3.new hp _).mono (by omega)) ⟨p, rfl, upd_same⟩ ⟨hx, oy, oz⟩
    (first | refine hN _ _ ?_ | skip); (first | unfold Go | skip); (first | ((try clear hN); refine seq_hide fun N hN => ?_) | skip); (try simp (config := { contextual := true, maxSteps := 1000000 }) only [rdH1, uRepr_0, HO.dK.injEq, rdD1, rdB1, rdA1, rdA2, rdA3, rdA4, rdA5, rdS1, rdS2, reduceIte, Nat.reduceSub, Nat.reduceAdd, String.reduceBEq, Int.reducePow, Int.reduceNeg, Int.reduceLT, Int.reduceLE, Int.reduceToNat, Int.reduceMul, Int.reduceAdd, Int.reduceSub, reduceCtorEq, Nat.reduceLeDiff, Nat.reducePow, Nat.reduceLT, Int.reduceAbs])
    refine ite2 (fun e => th _ (by decide +kernel)) (fun _ => ite2 (fun e => th _ (by decide +kernel)) (fun _ => ?_))
    (first | refine hN _ _ ?_ | skip); (first | unfold Go | skip); (first | ((try clear hN); refine seq_hide fun N hN => ?_) | skip); (try simp (config := { contextual := true, maxSteps := 1000000 }) only [rdH1, uRepr_0, HO.dK.injEq, rdD1, rdB1, rdA1, rdA2, rdA3, rdA4, rdA5, rdS1, rdS2, reduceIte, Nat.reduceSub, Nat.reduceAdd, String.reduceBEq, Int.reducePow, Int.reduceNeg, Int.reduceLT, Int.reduceLE, Int.reduceToNat, Int.reduceMul, Int.reduceAdd, Int.reduceSub, reduceCtorEq, Nat.reduceLeDiff, Nat.reducePow, Nat.reduceLT, Int.reduceAbs])
    intro p hp
    exact q (.ref p) (.two x y) _ (s12.new hp _) ((w2.new hp _).mono (by omega)) ⟨p, rfl, upd_same⟩ ⟨x6, oy⟩
/-- what undoes a deed -/
def spCtr : Sp := fun vs H Q _ => ∃ (H0 : Hp) (v : V) (D : Deed), vs = [v] ∧ DeedAt H0 H v D ∧ D.Ok ∧ ∀ (v' : V) (H' : Hp), Same H H' → DeedAt H H' v' (ctr D) → Q v' H'
theorem sc_law_contrary : FnScope ["_law_deed", "_law_words", "_law_at"] ["_law_deed"] (defScope s_law_contrary) := ⟨rfl, rfl, rfl, by decide +kernel, rfl, by decide +kernel, by decide +kernel⟩
theorem ndc_law_contrary0 : (["_law_bar", "_law_step"] : List Str).Nodup := by decide +kernel
theorem ok_law_contrary  {f : Addr} {fd : FuncData} (F : Fun K "_law_contrary" "_law_contrary" s_law_contrary f fd) : FnOk P w K mg base CX0 1 f fd ["_law_deed"] spCtr := by
  refine F.ok sc_law_contrary (fun vs H Q E h => ?_) (fun cdv A outer s H vs Q E hr h => ?_)
  · obtain ⟨H0, v, D, rfl, hD, ok, q⟩ := h
    rfl
  obtain ⟨H0, v, D, rfl, hD, ok, q⟩ := h
  refine ⟨_, (pss_cons (ps_if (pt_cmpR (u_eq (n := 4) hr.units) (pe_ix u_ix (pv 0) pe_int (fun _ _ => rfl)) pe_str (nomark _)) (pss_one (ps_ret (pe_tup (pa_cons pe_str (pa_cons (pe_comp (own := ["_law_bar", "_law_step"]) (capn := []) (caps := []) rfl ⟨rfl, by decide +kernel, by decide +kernel, (by show ∀ y : Str × NameKind, y ∈ _ → y.2 = NameKind.free → (defScope s_law_contrary).names.lookup y.1 = some .cell ∨ (defScope s_law_contrary).names.lookup y.1 = some .free; decide +kernel), by decide +kernel, rfl⟩ (pi_list (pe_ix u_ix (pv 0) pe_int (fun _ _ => rfl))) (fun _ _ _ _ _ => (pg_tupF (pg_tup (n := 2) rfl (pgs_cons (pg_name (i := 0) ndc_law_contrary0 rfl (Or.inl rfl)) (pgs_cons (pg_name (i := 1) ndc_law_contrary0 rfl (Or.inl rfl)) pgs_nil))))) (fun _ _ _ _ _ => pts_nil) (fun _ _ _ _ _ => (pe_tup (pa_cons (pv 0) (pa_cons (pe_un un_neg (pv 1)) pa_nil))))) pa_nil))))) pss_nil)
    (pss_cons (ps_set (i := 1) sc_law_contrary.nd rfl (Or.inl rfl) (pe_lst (pa_cons pe_str (pa_cons pe_str (pa_cons pe_str (pa_cons pe_str (pa_cons pe_str (pa_cons pe_str pa_nil))))))))
    (pss_cons (ps_set (i := 2) sc_law_contrary.nd rfl (Or.inl rfl) (pe_bm PySem.F.plainAttrs_list PySem.F.slot_list_index PySem.F.type_list_index u_index (pv 1) (pa_cons (pe_ix u_ix (pv 0) pe_int (fun _ _ => rfl)) pa_nil)))
    (pss_one (ps_ret (pe_op u_catT (pe_tup (pa_cons (pe_ix u_ix (pv 1) (pe_op op_sub (pe_op u_add (pv 2) pe_int) (pe_op u_mul pe_int (pe_op op_mod (pv 2) pe_int))) (fun _ _ => rfl)) pa_nil)) (pe_slice u_cutT (pv 0) (po_some pe_int) po_none))))))), ?_⟩
  cases D with
  | turn ms =>
    obtain ⟨a, l, xs, rfl, h2, h3, h4, h5⟩ := hD
    (first | ((try clear hN); refine seq_hide fun N hN => ?_) | skip); (try simp (config := { contextual := true, maxSteps := 1000000 }) only [rdH1, uRepr_0, HO.dK.injEq, rdD1, rdB1, rdA1, rdA2, rdA3, rdA4, rdA5, rdS1, rdS2, reduceIte, Nat.reduceSub, Nat.reduceAdd, String.reduceBEq, Int.reducePow, Int.reduceNeg, Int.reduceLT, Int.reduceLE, Int.reduceToNat, Int.reduceMul, Int.reduceAdd, Int.reduceSub, reduceCtorEq, Nat.reduceLeDiff, Nat.reducePow, Nat.reduceLT, Int.reduceAbs, h2, h3])
    refine neg_comp h3 h5 ok.1 fun p ys H1 s1 hp al => ?_
    intro p2 hp2
    have s2 := s1.trans ((same_new hp (.lst ys)).trans (same_new hp2 (.tup [V.str "turn", V.ref p])))
    exact q (.ref p2) _ s2 ⟨p2, p, ys, rfl, upd_same, same_new hp2 _ _ _ upd_same, none_of s1 hp, al.imp fun _ _ z => z.tup fun b xs e => same_new hp2 _ _ _ (same_new hp _ _ _ e)⟩
  | two w b =>
    obtain ⟨a, rfl, h2⟩ := hD
    have tn := six_turn ok.1
    have q' := fun p H' s e => q (.ref p) H' s (show DeedAt H H' (.ref p) (ctr (.two w b)) from ⟨p, rfl, e⟩)
    (first | ((try clear hN); refine seq_hide fun N hN => ?_) | skip); (try simp (config := { contextual := true, maxSteps := 1000000 }) only [rdH1, uRepr_0, HO.dK.injEq, rdD1, rdB1, rdA1, rdA2, rdA3, rdA4, rdA5, rdS1, rdS2, reduceIte, Nat.reduceSub, Nat.reduceAdd, String.reduceBEq, Int.reducePow, Int.reduceNeg, Int.reduceLT, Int.reduceLE, Int.reduceToNat, Int.reduceMul, Int.reduceAdd, Int.reduceSub, reduceCtorEq, Nat.reduceLeDiff, Nat.reducePow, Nat.reduceLT, Int.reduceAbs, h2])
    refine ite2 (fun e => absurd e tn) (fun _ => ?_)
    (first | refine hN _ _ ?_ | skip); (first | unfold Go | skip); (first | ((try clear hN); refine seq_hide fun N hN => ?_) | skip); (try simp (config := { contextual := true, maxSteps := 1000000 }) only [rdH1, uRepr_0, HO.dK.injEq, rdD1, rdB1, rdA1, rdA2, rdA3, rdA4, rdA5, rdS1, rdS2, reduceIte, Nat.reduceSub, Nat.reduceAdd, String.reduceBEq, Int.reducePow, Int.reduceNeg, Int.reduceLT, Int.reduceLE, Int.reduceToNat, Int.reduceMul, Int.reduceAdd, Int.reduceSub, reduceCtorEq, Nat.reduceLeDiff, Nat.reducePow, Nat.reduceLT, Int.reduceAbs])
    intro l6 hl6
    have s6 := same_new hl6 (.lst (six.map V.str))
    have e6 : (upd H l6 (.lst (six.map V.str))) l6 = some (.lst (six.map V.str)) := upd_same
    have a6 := s6 _ _ h2
    have g6 : upd H l6 (.lst [V.str "brake", V.str "loose", V.str "hang", V.str "strike", V.str "put", V.str "lift"]) = upd H l6 (.lst (six.map V.str)) := rfl
    rw [g6]
    generalize upd H l6 (.lst (six.map V.str)) = H6 at s6 e6 a6 ⊢
    obtain ⟨j, j1, j2, j3, j4⟩ := six_index ok.1
    (first | refine hN _ _ ?_ | skip); (first | unfold Go | skip); (first | ((try clear hN); refine seq_hide fun N hN => ?_) | skip); (try simp (config := { contextual := true, maxSteps := 1000000 }) only [rdH1, uRepr_0, HO.dK.injEq, rdD1, rdB1, rdA1, rdA2, rdA3, rdA4, rdA5, rdS1, rdS2, reduceIte, Nat.reduceSub, Nat.reduceAdd, String.reduceBEq, Int.reducePow, Int.reduceNeg, Int.reduceLT, Int.reduceLE, Int.reduceToNat, Int.reduceMul, Int.reduceAdd, Int.reduceSub, reduceCtorEq, Nat.reduceLeDiff, Nat.reducePow, Nat.reduceLT, Int.reduceAbs, a6])
    refine ⟨tyV_lst e6, six, e6, j, j1, j2, by omega, ?_⟩
    (first | refine hN _ _ ?_ | skip); (first | unfold Go | skip); (first | ((try clear hN); refine seq_hide fun N hN => ?_) | skip); (try simp (config := { contextual := true, maxSteps := 1000000 }) only [rdH1, uRepr_0, HO.dK.injEq, rdD1, rdB1, rdA1, rdA2, rdA3, rdA4, rdA5, rdS1, rdS2, reduceIte, Nat.reduceSub, Nat.reduceAdd, String.reduceBEq, Int.reducePow, Int.reduceNeg, Int.reduceLT, Int.reduceLE, Int.reduceToNat, Int.reduceMul, Int.reduceAdd, Int.reduceSub, reduceCtorEq, Nat.reduceLeDiff, Nat.reducePow, Nat.reduceLT, Int.reduceAbs, e6])
    exact ⟨_, j4, ctr_tail a6 (by simp) fun p H' s e => q' p H' (s6.trans s) e⟩
  | three w b c =>
    obtain ⟨a, rfl, h2⟩ := hD
    have tn := six_turn ok.1
    have q' := fun p H' s e => q (.ref p) H' s (show DeedAt H H' (.ref p) (ctr (.three w b c)) from ⟨p, rfl, e⟩)
    (first | ((try clear hN); refine seq_hide fun N hN => ?_) | skip); (try simp (config := { contextual := true, maxSteps := 1000000 }) only [rdH1, uRepr_0, HO.dK.injEq, rdD1, rdB1, rdA1, rdA2, rdA3, rdA4, rdA5, rdS1, rdS2, reduceIte, Nat.reduceSub, Nat.reduceAdd, String.reduceBEq, Int.reducePow, Int.reduceNeg, Int.reduceLT, Int.reduceLE, Int.reduceToNat, Int.reduceMul, Int.reduceAdd, Int.reduceSub, reduceCtorEq, Nat.reduceLeDiff, Nat.reducePow, Nat.reduceLT, Int.reduceAbs, h2])
    refine ite2 (fun e => absurd e tn) (fun _ => ?_)
    (first | refine hN _ _ ?_ | skip); (first | unfold Go | skip); (first | ((try clear hN); refine seq_hide fun N hN => ?_) | skip); (try simp (config := { contextual := true, maxSteps := 1000000 }) only [rdH1, uRepr_0, HO.dK.injEq, rdD1, rdB1, rdA1, rdA2, rdA3, rdA4, rdA5, rdS1, rdS2, reduceIte, Nat.reduceSub, Nat.reduceAdd, String.reduceBEq, Int.reducePow, Int.reduceNeg, Int.reduceLT, Int.reduceLE, Int.reduceToNat, Int.reduceMul, Int.reduceAdd, Int.reduceSub, reduceCtorEq, Nat.reduceLeDiff, Nat.reducePow, Nat.reduceLT, Int.reduceAbs])
    intro l6 hl6
    have s6 := same_new hl6 (.lst (six.map V.str))
    have e6 : (upd H l6 (.lst (six.map V.str))) l6 = some (.lst (six.map V.str)) := upd_same
    have a6 := s6 _ _ h2
    have g6 : upd H l6 (.lst [V.str "brake", V.str "loose", V.str "hang", V.str "strike", V.str "put", V.str "lift"]) = upd H l6 (.lst (six.map V.str)) := rfl
    rw [g6]
    generalize upd H l6 (.lst (six.map V.str)) = H6 at s6 e6 a6 ⊢
    obtain ⟨j, j1, j2, j3, j4⟩ := six_index ok.1
    (first | refine hN _ _ ?_ | skip); (first | unfold Go | skip); (first | ((try clear hN); refine seq_hide fun N hN => ?_) | skip); (try simp (config := { contextual := true, maxSteps := 1000000 }) only [rdH1, uRepr_0, HO.dK.injEq, rdD1, rdB1, rdA1, rdA2, rdA3, rdA4, rdA5, rdS1, rdS2, reduceIte, Nat.reduceSub, Nat.reduceAdd, String.reduceBEq, Int.reducePow, Int.reduceNeg, Int.reduceLT, Int.reduceLE, Int.reduceToNat, Int.reduceMul, Int.reduceAdd, Int.reduceSub, reduceCtorEq, Nat.reduceLeDiff, Nat.reducePow, Nat.reduceLT, Int.reduceAbs, a6])
    refine ⟨tyV_lst e6, six, e6, j, j1, j2, by omega, ?_⟩
    (first | refine hN _ _ ?_ | skip); (first | unfold Go | skip); (first | ((try clear hN); refine seq_hide fun N hN => ?_) | skip); (try simp (config := { contextual := true, maxSteps := 1000000 }) only [rdH1, uRepr_0, HO.dK.injEq, rdD1, rdB1, rdA1, rdA2, rdA3, rdA4, rdA5, rdS1, rdS2, reduceIte, Nat.reduceSub, Nat.reduceAdd, String.reduceBEq, Int.reducePow, Int.reduceNeg, Int.reduceLT, Int.reduceLE, Int.reduceToNat, Int.reduceMul, Int.reduceAdd, Int.reduceSub, reduceCtorEq, Nat.reduceLeDiff, Nat.reducePow, Nat.reduceLT, Int.reduceAbs, e6])
    exact ⟨_, j4, ctr_tail a6 (by simp) fun p H' s e => q' p H' (s6.trans s) e⟩
theorem scundone : FnScope ["deed"] ["deed"] (defScope sundone) := ⟨rfl, rfl, rfl, by decide +kernel, rfl, by decide +kernel, by decide +kernel⟩
theorem ndcundone0 : (["bar", "step"] : List Str).Nodup := by decide +kernel
theorem okundone  {f : Addr} {fd : FuncData} (F : Fun K "undone" "undone" sundone f fd) {a_CONTRARY : Addr} (c_CONTRARY : mg "CONTRARY" = some (.ref a_CONTRARY)) (D_CONTRARY : KDict K P w a_CONTRARY [(Sum.inr "brake", .str "loose"), (Sum.inr "loose", .str "brake"), (Sum.inr "hang", .str "strike"), (Sum.inr "strike", .str "hang"), (Sum.inr "put", .str "lift"), (Sum.inr "lift", .str "put")]) : FnOk P w K mg base CX0 1 f fd ["deed"] spCtr := by
  refine F.ok scundone (fun vs H Q E h => ?_) (fun cdv A outer s H vs Q E hr h => ?_)
  · obtain ⟨H0, v, D, rfl, hD, ok, q⟩ := h
    rfl
  obtain ⟨H0, v, D, rfl, hD, ok, q⟩ := h
  refine ⟨_, (pss_cons (ps_if (pt_cmpR (u_eq (n := 4) hr.units) (pe_ix u_ix (pv 0) pe_int (fun _ _ => rfl)) pe_str (nomark _)) (pss_one (ps_ret (pe_tup (pa_cons pe_str (pa_cons (pe_comp (own := ["bar", "step"]) (capn := []) (caps := []) rfl ⟨rfl, by decide +kernel, by decide +kernel, (by show ∀ y : Str × NameKind, y ∈ _ → y.2 = NameKind.free → (defScope sundone).names.lookup y.1 = some .cell ∨ (defScope sundone).names.lookup y.1 = some .free; decide +kernel), by decide +kernel, rfl⟩ (pi_list (pe_ix u_ix (pv 0) pe_int (fun _ _ => rfl))) (fun _ _ _ _ _ => (pg_tupF (pg_tup (n := 2) rfl (pgs_cons (pg_name (i := 0) ndcundone0 rfl (Or.inl rfl)) (pgs_cons (pg_name (i := 1) ndcundone0 rfl (Or.inl rfl)) pgs_nil))))) (fun _ _ _ _ _ => pts_nil) (fun _ _ _ _ _ => (pe_tup (pa_cons (pv 0) (pa_cons (pe_un un_neg (pv 1)) pa_nil))))) pa_nil))))) pss_nil)
    (pss_one (ps_ret (pe_op u_catT (pe_tup (pa_cons (pe_dgK D_CONTRARY (pe_glob (v := .ref a_CONTRARY) rfl c_CONTRARY rfl) (pe_ix u_ix (pv 0) pe_int (fun _ _ => rfl)) (fun _ _ => rfl)) pa_nil)) (pe_slice u_cutT (pv 0) (po_some pe_int) po_none))))), ?_⟩
  cases D with
  | turn ms =>
    obtain ⟨a, l, xs, rfl, h2, h3, h4, h5⟩ := hD
    (first | ((try clear hN); refine seq_hide fun N hN => ?_) | skip); (try simp (config := { contextual := true, maxSteps := 1000000 }) only [rdH1, uRepr_0, HO.dK.injEq, rdD1, rdB1, rdA1, rdA2, rdA3, rdA4, rdA5, rdS1, rdS2, reduceIte, Nat.reduceSub, Nat.reduceAdd, String.reduceBEq, Int.reducePow, Int.reduceNeg, Int.reduceLT, Int.reduceLE, Int.reduceToNat, Int.reduceMul, Int.reduceAdd, Int.reduceSub, reduceCtorEq, Nat.reduceLeDiff, Nat.reducePow, Nat.reduceLT, Int.reduceAbs, h2, h3])
    refine neg_comp h3 h5 ok.1 fun p ys H1 s1 hp al => ?_
    intro p2 hp2
    have s2 := s1.trans ((same_new hp (.lst ys)).trans (same_new hp2 (.tup [V.str "turn", V.ref p])))
    exact q (.ref p2) _ s2 ⟨p2, p, ys, rfl, upd_same, same_new hp2 _ _ _ upd_same, none_of s1 hp, al.imp fun _ _ z => z.tup fun b xs e => same_new hp2 _ _ _ (same_new hp _ _ _ e)⟩
  | two w b =>
    obtain ⟨a, rfl, h2⟩ := hD
    have tn := six_turn ok.1
    have q' := fun p H' s e => q (.ref p) H' s (show DeedAt H H' (.ref p) (ctr (.two w b)) from ⟨p, rfl, e⟩)
    (first | ((try clear hN); refine seq_hide fun N hN => ?_) | skip); (try simp (config := { contextual := true, maxSteps := 1000000 }) only [rdH1, uRepr_0, HO.dK.injEq, rdD1, rdB1, rdA1, rdA2, rdA3, rdA4, rdA5, rdS1, rdS2, reduceIte, Nat.reduceSub, Nat.reduceAdd, String.reduceBEq, Int.reducePow, Int.reduceNeg, Int.reduceLT, Int.reduceLE, Int.reduceToNat, Int.reduceMul, Int.reduceAdd, Int.reduceSub, reduceCtorEq, Nat.reduceLeDiff, Nat.reducePow, Nat.reduceLT, Int.reduceAbs, h2])
    refine ite2 (fun e => absurd e tn) (fun _ => ?_)
    (first | refine hN _ _ ?_ | skip); (first | unfold Go | skip); (first | ((try clear hN); refine seq_hide fun N hN => ?_) | skip); (try simp (config := { contextual := true, maxSteps := 1000000 }) only [rdH1, uRepr_0, HO.dK.injEq, rdD1, rdB1, rdA1, rdA2, rdA3, rdA4, rdA5, rdS1, rdS2, reduceIte, Nat.reduceSub, Nat.reduceAdd, String.reduceBEq, Int.reducePow, Int.reduceNeg, Int.reduceLT, Int.reduceLE, Int.reduceToNat, Int.reduceMul, Int.reduceAdd, Int.reduceSub, reduceCtorEq, Nat.reduceLeDiff, Nat.reducePow, Nat.reduceLT, Int.reduceAbs])
    refine ⟨_, by rw [h2]; rfl, .str w, atI_nat (j := 0) rfl, rfl, _, ctr_val ok.1, ?_⟩
    exact ctr_tail h2 (by simp) q'
  | three w b c =>
    obtain ⟨a, rfl, h2⟩ := hD
    have tn := six_turn ok.1
    have q' := fun p H' s e => q (.ref p) H' s (show DeedAt H H' (.ref p) (ctr (.three w b c)) from ⟨p, rfl, e⟩)
    (first | ((try clear hN); refine seq_hide fun N hN => ?_) | skip); (try simp (config := { contextual := true, maxSteps := 1000000 }) only [rdH1, uRepr_0, HO.dK.injEq, rdD1, rdB1, rdA1, rdA2, rdA3, rdA4, rdA5, rdS1, rdS2, reduceIte, Nat.reduceSub, Nat.reduceAdd, String.reduceBEq, Int.reducePow, Int.reduceNeg, Int.reduceLT, Int.reduceLE, Int.reduceToNat, Int.reduceMul, Int.reduceAdd, Int.reduceSub, reduceCtorEq, Nat.reduceLeDiff, Nat.reducePow, Nat.reduceLT, Int.reduceAbs, h2])
    refine ite2 (fun e => absurd e tn) (fun _ => ?_)
    (first | refine hN _ _ ?_ | skip); (first | unfold Go | skip); (first | ((try clear hN); refine seq_hide fun N hN => ?_) | skip); (try simp (config := { contextual := true, maxSteps := 1000000 }) only [rdH1, uRepr_0, HO.dK.injEq, rdD1, rdB1, rdA1, rdA2, rdA3, rdA4, rdA5, rdS1, rdS2, reduceIte, Nat.reduceSub, Nat.reduceAdd, String.reduceBEq, Int.reducePow, Int.reduceNeg, Int.reduceLT, Int.reduceLE, Int.reduceToNat, Int.reduceMul, Int.reduceAdd, Int.reduceSub, reduceCtorEq, Nat.reduceLeDiff, Nat.reducePow, Nat.reduceLT, Int.reduceAbs])
    refine ⟨_, by rw [h2]; rfl, .str w, atI_nat (j := 0) rfl, rfl, _, ctr_val ok.1, ?_⟩
    exact ctr_tail h2 (by simp) q'
def spBack : Sp := fun vs H Q _ => ∃ (H0 : Hp) (a : Addr) (us : List V) (Ds : List Deed), vs = [.ref a] ∧ H a = some (.lst us) ∧ All2 (DeedAt H0 H) us Ds ∧ (∀ D ∈ Ds, D.Ok) ∧ Ds.length ≤ 60 ∧
  ∀ (r : Addr) (ws : List V) (H1 : Hp), Same H H1 → All2 (DeedAt H H1) ws (Ds.reverse.map ctr) → H1 r = none → Q (.ref r) (upd H1 r (.lst ws))
theorem mem_of_rev {Ds : List Deed} {D : Deed} {i : Nat} (h : Ds.reverse[i]? = some D) : D ∈ Ds := List.mem_reverse.mp (List.mem_of_getElem? h)
theorem scbackwards : FnScope ["deeds"] ["deeds"] (defScope sbackwards) := ⟨rfl, rfl, rfl, by decide +kernel, rfl, by decide +kernel, by decide +kernel⟩
theorem ndcbackwards0 : (["deed"] : List Str).Nodup := by decide +kernel
theorem okbackwards  {f : Addr} {fd : FuncData} (F : Fun K "backwards" "backwards" sbackwards f fd)
    {f_undone : Addr} {d_undone : FuncData} (G_undone : FnOk P w K mg base CX0 1 f_undone d_undone ["deed"] spCtr) (b_undone : Binds K d_undone ["deed"] []) (k_undone : PySem.W.keepIn K (.ref f_undone) = true) (m_undone : mg "undone" = some (.ref f_undone)) (m_reversed : mg "reversed" = none) : FnOk P w K mg base CX0 2 f fd ["deeds"] spBack := by
  refine F.ok scbackwards (fun vs H Q E h => ?_) (fun cdv A outer s H vs Q E hr h => ?_)
  · obtain ⟨H0, a, us, Ds, rfl, ha, al, ok, hl, q⟩ := h
    rfl
  obtain ⟨H0, a, us, Ds, rfl, ha, al, ok, hl, q⟩ := h
  refine ⟨_, (pss_one (ps_ret (pe_comp (own := ["deed"]) (capn := []) (caps := []) rfl ⟨rfl, by decide +kernel, by decide +kernel, (by show ∀ y : Str × NameKind, y ∈ _ → y.2 = NameKind.free → (defScope sbackwards).names.lookup y.1 = some .cell ∨ (defScope sbackwards).names.lookup y.1 = some .free; decide +kernel), by decide +kernel, rfl⟩ (pi_rev rfl m_reversed (pa_cons (pv 0) pa_nil)) (fun _ _ _ _ _ => (pg_name (i := 0) ndcbackwards0 rfl (Or.inl rfl))) (fun _ _ _ _ _ => pts_nil) (fun _ _ _ _ _ => (pe_call G_undone hr rfl m_undone k_undone b_undone .nil pass0 (pa_cons (pv 0) pa_nil)))))), ?_⟩
  (first | ((try clear hN); refine seq_hide fun N hN => ?_) | skip); (try simp (config := { contextual := true, maxSteps := 1000000 }) only [rdH1, uRepr_0, HO.dK.injEq, rdD1, rdB1, rdA1, rdA2, rdA3, rdA4, rdA5, rdS1, rdS2, reduceIte, Nat.reduceSub, Nat.reduceAdd, String.reduceBEq, Int.reducePow, Int.reduceNeg, Int.reduceLT, Int.reduceLE, Int.reduceToNat, Int.reduceMul, Int.reduceAdd, Int.reduceSub, reduceCtorEq, Nat.reduceLeDiff, Nat.reducePow, Nat.reduceLT, Int.reduceAbs, ha])
  have hlen := al.len
  refine comp_rev (xs := us) (fun i ys H' => Same H H' ∧ All2 (DeedAt H H') ys ((Ds.reverse.take i).map ctr)) ⟨Same.refl _, by rw [List.take_zero]; exact .nil⟩ (fun i ys H' hi ⟨s, z⟩ => ⟨s _ _ ha, by rw [z.len, List.length_map, List.length_take]; omega⟩) (by omega) ?_ ?_
  · rintro i x ys H' M hx ⟨sm, z⟩ nxt
    obtain ⟨D, eD, hD⟩ := al.rev.get hx
    (first | ((try clear hN); refine seq_hide fun N hN => ?_) | skip); (try simp (config := { contextual := true, maxSteps := 1000000 }) only [rdH1, uRepr_0, HO.dK.injEq, rdD1, rdB1, rdA1, rdA2, rdA3, rdA4, rdA5, rdS1, rdS2, reduceIte, Nat.reduceSub, Nat.reduceAdd, String.reduceBEq, Int.reducePow, Int.reduceNeg, Int.reduceLT, Int.reduceLE, Int.reduceToNat, Int.reduceMul, Int.reduceAdd, Int.reduceSub, reduceCtorEq, Nat.reduceLeDiff, Nat.reducePow, Nat.reduceLT, Int.reduceAbs])
    refine ⟨H0, x, D, rfl, hD.same sm, ok D (mem_of_rev eD), fun v' H2 s2 d2 => nxt _ _ ⟨sm.trans s2, ?_⟩⟩
    rw [List.take_add_one, eD, List.map_append]
    exact (z.imp fun _ _ w => w.same s2).app (.one (d2.weak fun b hb => none_of sm hb))
  · rintro ys H' p ⟨sm, z⟩ hp
    rw [List.take_of_length_le (by rw [List.length_reverse]; omega)] at z
    exact q p ys H' sm z hp
def spBackR : Sp := fun vs H Q _ => ∃ (a : Addr) (us : List V) (Ds : List Deed), vs = [.ref a] ∧ H a = some (.lst us) ∧ All2 (DeedAt NoH H) us Ds ∧ (∀ D ∈ Ds, D.Ok) ∧ Ds.length ≤ 60 ∧ ∀ H', Same H H' → Q (.bl true) H'
theorem sc_law_backwards_right : FnScope ["_law_deeds", "_law_handed", "_law_due", "_law_turn", "_law_found", "_law_deed"] ["_law_deeds"] (defScope s_law_backwards_right) := ⟨rfl, rfl, rfl, by decide +kernel, rfl, by decide +kernel, by decide +kernel⟩
theorem ndc_law_backwards_right0 : (["_law_deed"] : List Str).Nodup := by decide +kernel
theorem ndc_law_backwards_right1 : (["_law_deed"] : List Str).Nodup := by decide +kernel
theorem ok_law_backwards_right  {f : Addr} {fd : FuncData} (F : Fun K "_law_backwards_right" "_law_backwards_right" s_law_backwards_right f fd)
    {f_backwards : Addr} {d_backwards : FuncData} (G_backwards : FnOk P w K mg base CX0 2 f_backwards d_backwards ["deeds"] spBack) (b_backwards : Binds K d_backwards ["deeds"] []) (k_backwards : PySem.W.keepIn K (.ref f_backwards) = true) (m_backwards : mg "backwards" = some (.ref f_backwards))
    {f__law_contrary : Addr} {d__law_contrary : FuncData} (G__law_contrary : FnOk P w K mg base CX0 2 f__law_contrary d__law_contrary ["_law_deed"] spCtr) (b__law_contrary : Binds K d__law_contrary ["_law_deed"] []) (k__law_contrary : PySem.W.keepIn K (.ref f__law_contrary) = true) (m__law_contrary : mg "_law_contrary" = some (.ref f__law_contrary)) (m_range : mg "range" = none) (m_repr : mg "repr" = none) (m_isinstance : mg "isinstance" = none) (m_list : mg "list" = none) (m_reversed : mg "reversed" = none) : FnOk P w K mg base CX0 3 f fd ["_law_deeds"] spBackR := by
  refine F.ok sc_law_backwards_right (fun vs H Q E h => ?_) (fun cdv A outer s H vs Q E hr h => ?_)
  · obtain ⟨a, us, Ds, rfl, ha, al, ok, hl, q⟩ := h
    rfl
  obtain ⟨a, us, Ds, rfl, ha, al, ok, hl, q⟩ := h
  refine ⟨_, (pss_cons (ps_setC (k := 1) (own := ["_law_deed"]) (capn := []) (caps := []) rfl ⟨rfl, by decide +kernel, by decide +kernel, (by show ∀ y : Str × NameKind, y ∈ _ → y.2 = NameKind.free → (defScope s_law_backwards_right).names.lookup y.1 = some .cell ∨ (defScope s_law_backwards_right).names.lookup y.1 = some .free; decide +kernel), by decide +kernel, rfl⟩ (pi_list (pv 0)) (fun _ _ _ _ _ => (pg_name (i := 0) ndc_law_backwards_right1 rfl (Or.inl rfl))) (fun _ _ _ _ _ => pts_nil) (fun _ _ _ _ _ => (pe_ifExp (pt_cmpR (u_eq (n := 4) hr.units) (pe_ix u_ix (pv 0) pe_int (fun _ _ => rfl)) pe_str (nomark _)) (pe_tup (pa_cons pe_str (pa_cons (pe_callTy u_list rfl m_list PyProof.Rows.boot_list (pa_cons (pe_ix u_ix (pv 0) pe_int (fun _ _ => rfl)) pa_nil)) pa_nil))) (pv 0))) sc_law_backwards_right.nd rfl (Or.inl rfl))
    (pss_cons (ps_setC (k := 2) (own := ["_law_deed"]) (capn := []) (caps := []) rfl ⟨rfl, by decide +kernel, by decide +kernel, (by show ∀ y : Str × NameKind, y ∈ _ → y.2 = NameKind.free → (defScope s_law_backwards_right).names.lookup y.1 = some .cell ∨ (defScope s_law_backwards_right).names.lookup y.1 = some .free; decide +kernel), by decide +kernel, rfl⟩ (pi_rev rfl m_reversed (pa_cons (pv 0) pa_nil)) (fun _ _ _ _ _ => (pg_name (i := 0) ndc_law_backwards_right0 rfl (Or.inl rfl))) (fun _ _ _ _ _ => pts_nil) (fun _ _ _ _ _ => (pe_call G__law_contrary hr rfl m__law_contrary k__law_contrary b__law_contrary .nil pass0 (pa_cons (pv 0) pa_nil))) sc_law_backwards_right.nd rfl (Or.inl rfl))
    (pss_cons (ps_for PassesOwn.never rfl (pi_range1 rfl m_range (pa_cons pe_int pa_nil)) (pg_name (i := 3) sc_law_backwards_right.nd rfl (Or.inl rfl)) (pss_blk (pss_cons (ps_set (i := 4) sc_law_backwards_right.nd rfl (Or.inl rfl) (pe_call G_backwards hr rfl m_backwards k_backwards b_backwards .nil pass0 (pa_cons (pv 1) pa_nil)))
    (pss_cons (ps_if (PW.pt (pw_or (pt_not (pt_val (pe_callB u_isi rfl m_isinstance PyProof.Rows.boot_isinstance (pa_cons (pv 4) (pa_cons (pe_ty rfl m_list PyProof.Rows.boot_list) pa_nil))))) (pw_or (pt_cmpR (u_ne (n := 4) hr.units) (pe_callB (u_repr hr.gd hr.units) rfl m_repr PyProof.Rows.boot_repr (pa_cons (pv 4) pa_nil)) (pe_callB (u_repr hr.gd hr.units) rfl m_repr PyProof.Rows.boot_repr (pa_cons (pv 2) pa_nil)) (nomark _)) (pw_or1 (pt_cmpR (u_ne (n := 4) hr.units) (pe_callB (u_repr hr.gd hr.units) rfl m_repr PyProof.Rows.boot_repr (pa_cons (pv 1) pa_nil)) (pe_callB (u_repr hr.gd hr.units) rfl m_repr PyProof.Rows.boot_repr (pa_cons (pv 0) pa_nil)) (nomark _)))))) (pss_one (ps_ret pe_bl)) pss_nil)
    (pss_cons (ps_for PassesOwn.never rfl (pi_list (pv 4)) (pg_name (i := 5) sc_law_backwards_right.nd rfl (Or.inl rfl)) (pss_one (ps_if (pt_cmpR (u_eq (n := 4) hr.units) (pe_ix u_ix (pv 5) pe_int (fun _ _ => rfl)) pe_str (nomark _)) (pss_one (ps_expr (pe_bm0 PySem.F.plainAttrs_list PySem.F.slot_list_clear PySem.F.type_list_clear u_clear (pe_ix u_ix (pv 5) pe_int (fun _ _ => rfl))))) pss_nil)))
    (pss_one (ps_expr (pe_bm PySem.F.plainAttrs_list PySem.F.slot_list_append PySem.F.type_list_append u_app (pv 4) (pa_cons (pe_tup (pa_cons pe_str (pa_cons pe_str pa_nil))) pa_nil)))))))))
    (pss_one (ps_ret pe_bl))))), ?_⟩
  (first | ((try clear hN); refine seq_hide fun N hN => ?_) | skip); (try simp (config := { contextual := true, maxSteps := 1000000 }) only [rdH1, uRepr_0, HO.dK.injEq, rdD1, rdB1, rdA1, rdA2, rdA3, rdA4, rdA5, rdS1, rdS2, reduceIte, Nat.reduceSub, Nat.reduceAdd, String.reduceBEq, Int.reducePow, Int.reduceNeg, Int.reduceLT, Int.reduceLE, Int.reduceToNat, Int.reduceMul, Int.reduceAdd, Int.reduceSub, reduceCtorEq, Nat.reduceLeDiff, Nat.reducePow, Nat.reduceLT, Int.reduceAbs])
  have hlen := al.len
  refine ⟨⟨_, .inl (.inl ha)⟩, ?_⟩
  refine comp_list (xs := us) (fun i ys H' => Same H H' ∧ All2 (DeedAt NoH H') ys (Ds.take i)) ⟨Same.refl _, by rw [List.take_zero]; exact .nil⟩ (fun i ys H' hi ⟨s, z⟩ => ⟨s _ _ ha, by rw [z.len, List.length_take]; omega⟩) (by omega) ?_ ?_
  · rintro i x ys H' M hx ⟨sm, z⟩ nxt
    obtain ⟨D, eD, hD⟩ := al.get hx
    have oD := ok D (List.mem_of_getElem? eD)
    have tk : Ds.take (i + 1) = Ds.take i ++ [D] := by rw [List.take_add_one, eD]; rfl
    have hD' := hD.same sm
    cases D with
    | turn ms =>
      obtain ⟨b, l, xs, rfl, h2, h3, h4, h5⟩ := hD'
      (first | ((try clear hN); refine seq_hide fun N hN => ?_) | skip); (try simp (config := { contextual := true, maxSteps := 1000000 }) only [rdH1, uRepr_0, HO.dK.injEq, rdD1, rdB1, rdA1, rdA2, rdA3, rdA4, rdA5, rdS1, rdS2, reduceIte, Nat.reduceSub, Nat.reduceAdd, String.reduceBEq, Int.reducePow, Int.reduceNeg, Int.reduceLT, Int.reduceLE, Int.reduceToNat, Int.reduceMul, Int.reduceAdd, Int.reduceSub, reduceCtorEq, Nat.reduceLeDiff, Nat.reducePow, Nat.reduceLT, Int.reduceAbs, h2, h3])
      intro l2 hl2 p hp
      have s8 := (same_new hl2 (.lst xs)).trans (same_new hp (.tup [V.str "turn", V.ref l2]))
      exact nxt _ _ ⟨sm.trans s8, by rw [tk]; exact (z.imp fun _ _ w => w.same s8).app (.one ⟨p, l2, xs, rfl, upd_same, same_new hp _ _ _ upd_same, rfl, h5.imp fun _ _ w => w.tup fun b xs e => s8 _ _ e⟩)⟩
    | two w b =>
      obtain ⟨b, rfl, h2⟩ := id hD'
      have tn := six_turn oD.1
      (first | ((try clear hN); refine seq_hide fun N hN => ?_) | skip); (try simp (config := { contextual := true, maxSteps := 1000000 }) only [rdH1, uRepr_0, HO.dK.injEq, rdD1, rdB1, rdA1, rdA2, rdA3, rdA4, rdA5, rdS1, rdS2, reduceIte, Nat.reduceSub, Nat.reduceAdd, String.reduceBEq, Int.reducePow, Int.reduceNeg, Int.reduceLT, Int.reduceLE, Int.reduceToNat, Int.reduceMul, Int.reduceAdd, Int.reduceSub, reduceCtorEq, Nat.reduceLeDiff, Nat.reducePow, Nat.reduceLT, Int.reduceAbs, h2])
      refine ite2 (fun e => absurd e tn) (fun _ => nxt _ _ ⟨sm, by rw [tk]; exact z.app (.one hD')⟩)
    | three w b c =>
      obtain ⟨b, rfl, h2⟩ := id hD'
      have tn := six_turn oD.1
      (first | ((try clear hN); refine seq_hide fun N hN => ?_) | skip); (try simp (config := { contextual := true, maxSteps := 1000000 }) only [rdH1, uRepr_0, HO.dK.injEq, rdD1, rdB1, rdA1, rdA2, rdA3, rdA4, rdA5, rdS1, rdS2, reduceIte, Nat.reduceSub, Nat.reduceAdd, String.reduceBEq, Int.reducePow, Int.reduceNeg, Int.reduceLT, Int.reduceLE, Int.reduceToNat, Int.reduceMul, Int.reduceAdd, Int.reduceSub, reduceCtorEq, Nat.reduceLeDiff, Nat.reducePow, Nat.reduceLT, Int.reduceAbs, h2])
      refine ite2 (fun e => absurd e tn) (fun _ => nxt _ _ ⟨sm, by rw [tk]; exact z.app (.one hD')⟩)
  · rintro ys H1 hd ⟨s1, z1⟩ hhd
    rw [List.take_of_length_le (by omega)] at z1
    have s2 := s1.trans (same_new hhd (.lst ys))
    have e2 : (upd H1 hd (.lst ys)) hd = some (.lst ys) := upd_same
    have z2 := z1.imp fun _ _ w => w.same (same_new hhd (.lst ys))
    generalize upd H1 hd (.lst ys) = H2 at s2 e2 z2 ⊢
    have ha2 := s2 _ _ ha
    have al2 := al.imp fun _ _ w => w.same s2
    (first | refine hN _ _ ?_ | skip); (first | unfold Go | skip); (first | ((try clear hN); refine seq_hide fun N hN => ?_) | skip); (try simp (config := { contextual := true, maxSteps := 1000000 }) only [rdH1, uRepr_0, HO.dK.injEq, rdD1, rdB1, rdA1, rdA2, rdA3, rdA4, rdA5, rdS1, rdS2, reduceIte, Nat.reduceSub, Nat.reduceAdd, String.reduceBEq, Int.reducePow, Int.reduceNeg, Int.reduceLT, Int.reduceLE, Int.reduceToNat, Int.reduceMul, Int.reduceAdd, Int.reduceSub, reduceCtorEq, Nat.reduceLeDiff, Nat.reducePow, Nat.reduceLT, Int.reduceAbs, ha2])
    refine comp_rev (xs := us) (fun i ys H' => Same H2 H' ∧ All2 (DeedAt H2 H') ys ((Ds.reverse.take i).map ctr)) ⟨Same.refl _, by rw [List.take_zero]; exact .nil⟩ (fun i ys H' hi ⟨s, z⟩ => ⟨s _ _ ha2, by rw [z.len, List.length_map, List.length_take]; omega⟩) (by omega) ?_ ?_
    · rintro i x ys H' M hx ⟨sm, z⟩ nxt
      obtain ⟨D, eD, hD⟩ := al2.rev.get hx
      (first | ((try clear hN); refine seq_hide fun N hN => ?_) | skip); (try simp (config := { contextual := true, maxSteps := 1000000 }) only [rdH1, uRepr_0, HO.dK.injEq, rdD1, rdB1, rdA1, rdA2, rdA3, rdA4, rdA5, rdS1, rdS2, reduceIte, Nat.reduceSub, Nat.reduceAdd, String.reduceBEq, Int.reducePow, Int.reduceNeg, Int.reduceLT, Int.reduceLE, Int.reduceToNat, Int.reduceMul, Int.reduceAdd, Int.reduceSub, reduceCtorEq, Nat.reduceLeDiff, Nat.reducePow, Nat.reduceLT, Int.reduceAbs])
      refine ⟨NoH, x, D, rfl, hD.same sm, ok D (mem_of_rev eD), fun v' H2 s2 d2 => nxt _ _ ⟨sm.trans s2, ?_⟩⟩
      rw [List.take_add_one, eD, List.map_append]
      exact (z.imp fun _ _ w => w.same s2).app (.one (d2.weak fun b hb => none_of sm hb))
    · rintro zs H3 du ⟨s3, z3⟩ hdu
      rw [List.take_of_length_le (by rw [List.length_reverse]; omega)] at z3
      have s4 := s3.trans (same_new hdu (.lst zs))
      have e4 : (upd H3 du (.lst zs)) du = some (.lst zs) := upd_same
      have z4 := z3.imp fun _ _ w => w.same (same_new hdu (.lst zs))
      generalize upd H3 du (.lst zs) = H4 at s4 e4 z4 ⊢
      have ha4 := s4 _ _ ha2
      have hd4 := s4 _ _ e2
      have al4 := al2.imp fun _ _ w => w.same s4
      have hz4 := z2.imp fun _ _ w => w.same s4
      have sH := s2.trans s4
      clear z3 s3 hdu z2 al2 ha2 e2 s2 z1 s1 hhd
      (first | refine hN _ _ ?_ | skip); (first | unfold Go | skip); (first | ((try clear hN); refine seq_hide fun N hN => ?_) | skip); (try simp (config := { contextual := true, maxSteps := 1000000 }) only [rdH1, uRepr_0, HO.dK.injEq, rdD1, rdB1, rdA1, rdA2, rdA3, rdA4, rdA5, rdS1, rdS2, reduceIte, Nat.reduceSub, Nat.reduceAdd, String.reduceBEq, Int.reducePow, Int.reduceNeg, Int.reduceLT, Int.reduceLE, Int.reduceToNat, Int.reduceMul, Int.reduceAdd, Int.reduceSub, reduceCtorEq, Nat.reduceLeDiff, Nat.reducePow, Nat.reduceLT, Int.reduceAbs])
      refine loop_range (fun i σ H' => ∃ (v3 v4 v5 : Option V), σ = [some (V.ref a), some (V.ref hd), some (V.ref du), v3, v4, v5] ∧ Same H4 H') ⟨none, none, none, rfl, Same.refl _⟩ ?_ ?_
      · rintro i σ H' hi ⟨v3, v4, v5, rfl, sm⟩
        (first | ((try clear hN); refine seq_hide fun N hN => ?_) | skip); (try simp (config := { contextual := true, maxSteps := 1000000 }) only [rdH1, uRepr_0, HO.dK.injEq, rdD1, rdB1, rdA1, rdA2, rdA3, rdA4, rdA5, rdS1, rdS2, reduceIte, Nat.reduceSub, Nat.reduceAdd, String.reduceBEq, Int.reducePow, Int.reduceNeg, Int.reduceLT, Int.reduceLE, Int.reduceToNat, Int.reduceMul, Int.reduceAdd, Int.reduceSub, reduceCtorEq, Nat.reduceLeDiff, Nat.reducePow, Nat.reduceLT, Int.reduceAbs])
        refine ⟨NoH, hd, ys, Ds, rfl, sm _ _ hd4, hz4.imp (fun _ _ w => w.same sm), ok, hl, fun r ws H5 s5 z5 hr => ?_⟩
        have s6 := s5.trans (same_new hr (.lst ws))
        have e6 : (upd H5 r (.lst ws)) r = some (.lst ws) := upd_same
        have z6 := z5.imp fun _ _ w => w.same (same_new hr (.lst ws))
        have okC : ∀ D ∈ Ds.reverse.map ctr, D.Ok := fun D hD => by
          obtain ⟨D', hD', rfl⟩ := List.mem_map.mp hD
          exact ctr_ok (ok D' (List.mem_reverse.mp hD'))
        have tops : ∀ u ∈ ws, TopAt H4 (upd H5 r (.lst ws)) r u := fun u hu => by
          obtain ⟨D, hD, z⟩ := z5.mem hu
          exact ((z.top (okC D hD) hr).same (same_new hr (.lst ws))).weak fun b hb => none_of sm hb
        have rn : H4 r = none := none_of (sm.trans s5) hr
        generalize upd H5 r (.lst ws) = H6 at s6 e6 z6 tops ⊢
        have smC := deeds_sml okC (by rw [List.length_map, List.length_reverse]; exact hl)
        have smD := deeds_sml ok hl
        have s46 := sm.trans s6
        (first | refine hN _ _ ?_ | skip); (first | unfold Go | skip); (first | ((try clear hN); refine seq_hide fun N hN => ?_) | skip); (try simp (config := { contextual := true, maxSteps := 1000000 }) only [rdH1, uRepr_0, HO.dK.injEq, rdD1, rdB1, rdA1, rdA2, rdA3, rdA4, rdA5, rdS1, rdS2, reduceIte, Nat.reduceSub, Nat.reduceAdd, String.reduceBEq, Int.reducePow, Int.reduceNeg, Int.reduceLT, Int.reduceLE, Int.reduceToNat, Int.reduceMul, Int.reduceAdd, Int.reduceSub, reduceCtorEq, Nat.reduceLeDiff, Nat.reducePow, Nat.reduceLT, Int.reduceAbs, e6])
        refine ⟨_, .lst e6 (deeds_rep z6), smC.sh, Nat.le_trans smC.dp (by decide), Nat.le_trans smC.ln (by decide), _, .lst (s46 _ _ e4) (deeds_rep (z4.imp fun _ _ w => w.same s46)), smC.sh, Nat.le_trans smC.dp (by decide), Nat.le_trans smC.ln (by decide), ?_⟩
        rw [if_neg (by simp)]
        refine ⟨_, .lst (s46 _ _ hd4) (deeds_rep (hz4.imp fun _ _ w => w.same s46)), smD.sh, Nat.le_trans smD.dp (by decide), Nat.le_trans smD.ln (by decide), _, .lst (s46 _ _ ha4) (deeds_rep (al4.imp fun _ _ w => w.same s46)), smD.sh, Nat.le_trans smD.dp (by decide), Nat.le_trans smD.ln (by decide), ?_⟩
        rw [if_neg (by simp)]
        have wl := z5.len
        rw [List.length_map, List.length_reverse] at wl
        (first | refine hN _ _ ?_ | skip); (first | unfold Go | skip); (first | ((try clear hN); refine seq_hide fun N hN => ?_) | skip); (try simp (config := { contextual := true, maxSteps := 1000000 }) only [rdH1, uRepr_0, HO.dK.injEq, rdD1, rdB1, rdA1, rdA2, rdA3, rdA4, rdA5, rdS1, rdS2, reduceIte, Nat.reduceSub, Nat.reduceAdd, String.reduceBEq, Int.reducePow, Int.reduceNeg, Int.reduceLT, Int.reduceLE, Int.reduceToNat, Int.reduceMul, Int.reduceAdd, Int.reduceSub, reduceCtorEq, Nat.reduceLeDiff, Nat.reducePow, Nat.reduceLT, Int.reduceAbs])
        refine ⟨⟨_, .inl (.inl e6)⟩, ?_⟩
        refine loop_list (xs := ws) (fun j σ H' => ∃ (v5 : Option V), σ = [some (V.ref a), some (V.ref hd), some (V.ref du), some (V.int (0 + (i : Int))), some (V.ref r), v5] ∧ Same H4 H' ∧ H' r = some (.lst ws) ∧ ∀ u ∈ ws, TopAt H4 H' r u) ⟨_, rfl, s46, e6, tops⟩ (fun j σ H' _ ⟨_, _, _, z, _⟩ => z) ?_ ?_
        · rintro j x σ H7 hx ⟨v5, rfl, s7, e7, t7⟩
          obtain ⟨b, w, rest, rfl, eb, ht⟩ := t7 x (List.mem_of_getElem? hx)
          (first | ((try clear hN); refine seq_hide fun N hN => ?_) | skip); (try simp (config := { contextual := true, maxSteps := 1000000 }) only [rdH1, uRepr_0, HO.dK.injEq, rdD1, rdB1, rdA1, rdA2, rdA3, rdA4, rdA5, rdS1, rdS2, reduceIte, Nat.reduceSub, Nat.reduceAdd, String.reduceBEq, Int.reducePow, Int.reduceNeg, Int.reduceLT, Int.reduceLE, Int.reduceToNat, Int.reduceMul, Int.reduceAdd, Int.reduceSub, reduceCtorEq, Nat.reduceLeDiff, Nat.reducePow, Nat.reduceLT, Int.reduceAbs, eb])
          refine ite2 (fun e => ?_) (fun _ => ⟨s7, e7, t7⟩)
          obtain ⟨l, xs, rfl, el, nl, lr⟩ := ht e
          (first | ((try clear hN); refine seq_hide fun N hN => ?_) | skip); (try simp (config := { contextual := true, maxSteps := 1000000 }) only [rdH1, uRepr_0, HO.dK.injEq, rdD1, rdB1, rdA1, rdA2, rdA3, rdA4, rdA5, rdS1, rdS2, reduceIte, Nat.reduceSub, Nat.reduceAdd, String.reduceBEq, Int.reducePow, Int.reduceNeg, Int.reduceLT, Int.reduceLE, Int.reduceToNat, Int.reduceMul, Int.reduceAdd, Int.reduceSub, reduceCtorEq, Nat.reduceLeDiff, Nat.reducePow, Nat.reduceLT, Int.reduceAbs, eb])
          exact ⟨tyV_lst el, ⟨_, el⟩, same_put nl s7, by rw [upd_ne lr.symm]; exact e7, fun u hu => (t7 u hu).clear el⟩
        · rintro σ H7 ⟨v5, rfl, s7, e7, t7⟩
          (first | refine hN _ _ ?_ | skip); (first | unfold Go | skip); (first | ((try clear hN); refine seq_hide fun N hN => ?_) | skip); (try simp (config := { contextual := true, maxSteps := 1000000 }) only [rdH1, uRepr_0, HO.dK.injEq, rdD1, rdB1, rdA1, rdA2, rdA3, rdA4, rdA5, rdS1, rdS2, reduceIte, Nat.reduceSub, Nat.reduceAdd, String.reduceBEq, Int.reducePow, Int.reduceNeg, Int.reduceLT, Int.reduceLE, Int.reduceToNat, Int.reduceMul, Int.reduceAdd, Int.reduceSub, reduceCtorEq, Nat.reduceLeDiff, Nat.reducePow, Nat.reduceLT, Int.reduceAbs])
          exact ⟨tyV_lst e7, fun p hp => ⟨_, same_new hp _ _ _ e7, by omega, same_put rn (s7.trans (same_new hp _))⟩⟩
      · rintro σ H' ⟨v3, v4, v5, rfl, sm⟩
        (first | refine hN _ _ ?_ | skip); (first | unfold Go | skip); (first | ((try clear hN); refine seq_hide fun N hN => ?_) | skip); (try simp (config := { contextual := true, maxSteps := 1000000 }) only [rdH1, uRepr_0, HO.dK.injEq, rdD1, rdB1, rdA1, rdA2, rdA3, rdA4, rdA5, rdS1, rdS2, reduceIte, Nat.reduceSub, Nat.reduceAdd, String.reduceBEq, Int.reducePow, Int.reduceNeg, Int.reduceLT, Int.reduceLE, Int.reduceToNat, Int.reduceMul, Int.reduceAdd, Int.reduceSub, reduceCtorEq, Nat.reduceLeDiff, Nat.reducePow, Nat.reduceLT, Int.reduceAbs])
        exact q H' (sH.trans sm)
def spLaw (K : PySem.W.Frag) (PT : Addr) : Sp := fun vs H Q _ => ∃ (a : Addr) (ns : List Int), vs = [.ref a] ∧ SqL K H a (ns.map V.int) ∧ ns.length ≤ 63 ∧ H PT = some (.tbl #[]) ∧ ∀ H', Q (.bl true) H'
theorem sclaw : FnScope ["_law_script", "_law_house_here", "_law_deeds", "_law_cuts", "_law_ways", "_law_well_here", "_law_deed", "_law_due", "_law_many"] ["_law_script"] (defScope slaw) := ⟨rfl, rfl, rfl, by decide +kernel, rfl, by decide +kernel, by decide +kernel⟩
theorem oklaw  {f : Addr} {fd : FuncData} (F : Fun K "law" "law" slaw f fd)
    {f__law_backwards_right : Addr} {d__law_backwards_right : FuncData} (G__law_backwards_right : FnOk P w K mg base CX0 3 f__law_backwards_right d__law_backwards_right ["_law_deeds"] spBackR) (b__law_backwards_right : Binds K d__law_backwards_right ["_law_deeds"] []) (k__law_backwards_right : PySem.W.keepIn K (.ref f__law_backwards_right) = true) (m__law_backwards_right : mg "_law_backwards_right" = some (.ref f__law_backwards_right))
    {f__law_wells : Addr} {d__law_wells : FuncData} (G__law_wells : FnOk P w K mg base CX0 3 f__law_wells d__law_wells ["_law_script", "_law_first", "_law_most"] (spWells K)) (b__law_wells : Binds K d__law_wells ["_law_script", "_law_first", "_law_most"] []) (k__law_wells : PySem.W.keepIn K (.ref f__law_wells) = true) (m__law_wells : mg "_law_wells" = some (.ref f__law_wells))
    {f__law_draw : Addr} {d__law_draw : FuncData} (G__law_draw : FnOk P w K mg base CX0 3 f__law_draw d__law_draw ["_law_well_here", "_law_many"] spDraw) (b__law_draw : Binds K d__law_draw ["_law_well_here", "_law_many"] []) (k__law_draw : PySem.W.keepIn K (.ref f__law_draw) = true) (m__law_draw : mg "_law_draw" = some (.ref f__law_draw))
    {f_undone : Addr} {d_undone : FuncData} (G_undone : FnOk P w K mg base CX0 3 f_undone d_undone ["deed"] spCtr) (b_undone : Binds K d_undone ["deed"] []) (k_undone : PySem.W.keepIn K (.ref f_undone) = true) (m_undone : mg "undone" = some (.ref f_undone))
    {f__law_contrary : Addr} {d__law_contrary : FuncData} (G__law_contrary : FnOk P w K mg base CX0 3 f__law_contrary d__law_contrary ["_law_deed"] spCtr) (b__law_contrary : Binds K d__law_contrary ["_law_deed"] []) (k__law_contrary : PySem.W.keepIn K (.ref f__law_contrary) = true) (m__law_contrary : mg "_law_contrary" = some (.ref f__law_contrary))
    {f__law_deed_by : Addr} {d__law_deed_by : FuncData} (G__law_deed_by : FnOk P w K mg base CX0 3 f__law_deed_by d__law_deed_by ["_law_well_here", "_law_house_here", "_law_ways"] spDeedBy) (b__law_deed_by : Binds K d__law_deed_by ["_law_well_here", "_law_house_here", "_law_ways"] []) (k__law_deed_by : PySem.W.keepIn K (.ref f__law_deed_by) = true) (m__law_deed_by : mg "_law_deed_by" = some (.ref f__law_deed_by))
    {f__law_house : Addr} {d__law_house : FuncData} (G__law_house : FnOk P w K mg base CX0 3 f__law_house d__law_house ["_law_well_here"] (spHouse PT)) (b__law_house : Binds K d__law_house ["_law_well_here"] []) (k__law_house : PySem.W.keepIn K (.ref f__law_house) = true) (m__law_house : mg "_law_house" = some (.ref f__law_house))
    {f__law_well : Addr} {d__law_well : FuncData} (G__law_well : FnOk P w K mg base CX0 3 f__law_well d__law_well ["_law_script", "_law_k"] (spWell K)) (b__law_well : Binds K d__law_well ["_law_script", "_law_k"] []) (k__law_well : PySem.W.keepIn K (.ref f__law_well) = true) (m__law_well : mg "_law_well" = some (.ref f__law_well)) (m_len : mg "len" = none) (m_repr : mg "repr" = none) : FnOk P w K mg base CX0 4 f fd ["_law_script"] (spLaw K PT) := by
  refine F.ok sclaw (fun vs H Q E h => ?_) (fun cdv A outer s H vs Q E hr h => ?_)
  · obtain ⟨a, ns, rfl, hS, h63, hP, q⟩ := h
    rfl
  obtain ⟨a, ns, rfl, hS, h63, hP, q⟩ := h
  refine ⟨_, (pss_cons (ps_set (i := 1) sclaw.nd rfl (Or.inl rfl) (pe_call G__law_house hr rfl m__law_house k__law_house b__law_house .nil pass0 (pa_cons (pe_call G__law_well hr rfl m__law_well k__law_well b__law_well .nil pass0 (pa_cons (pv 0) (pa_cons pe_int pa_nil))) pa_nil)))
    (pss_cons (ps_set (i := 2) sclaw.nd rfl (Or.inl rfl) (pe_lst pa_nil))
    (pss_cons (ps_set (i := 3) sclaw.nd rfl (Or.inl rfl) (pe_lst pa_nil))
    (pss_cons (ps_set (i := 4) sclaw.nd rfl (Or.inl rfl) (pe_lst (pa_cons pe_str (pa_cons pe_str (pa_cons pe_str (pa_cons pe_str (pa_cons pe_str (pa_cons pe_str (pa_cons pe_str (pa_cons pe_str pa_nil))))))))))
    (pss_cons (ps_for PassesOwn.never rfl (pi_list (pe_call G__law_wells hr rfl m__law_wells k__law_wells b__law_wells .nil pass0 (pa_cons (pv 0) (pa_cons pe_int (pa_cons pe_int pa_nil))))) (pg_name (i := 5) sclaw.nd rfl (Or.inl rfl)) (pss_blk (pss_cons (ps_set (i := 6) sclaw.nd rfl (Or.inl rfl) (pe_call G__law_deed_by hr rfl m__law_deed_by k__law_deed_by b__law_deed_by .nil pass0 (pa_cons (pv 5) (pa_cons (pv 1) (pa_cons (pv 4) pa_nil)))))
    (pss_cons (ps_set (i := 7) sclaw.nd rfl (Or.inl rfl) (pe_call G__law_contrary hr rfl m__law_contrary k__law_contrary b__law_contrary .nil pass0 (pa_cons (pv 6) pa_nil)))
    (pss_cons (ps_if (PW.pt (pw_or (pt_cmpR (u_ne (n := 4) hr.units) (pe_callB (u_repr hr.gd hr.units) rfl m_repr PyProof.Rows.boot_repr (pa_cons (pe_call G_undone hr rfl m_undone k_undone b_undone .nil pass0 (pa_cons (pv 6) pa_nil)) pa_nil)) (pe_callB (u_repr hr.gd hr.units) rfl m_repr PyProof.Rows.boot_repr (pa_cons (pv 7) pa_nil)) (nomark _)) (pw_or1 (pt_cmpR (u_ne (n := 4) hr.units) (pe_callB (u_repr hr.gd hr.units) rfl m_repr PyProof.Rows.boot_repr (pa_cons (pe_call G_undone hr rfl m_undone k_undone b_undone .nil pass0 (pa_cons (pv 7) pa_nil)) pa_nil)) (pe_callB (u_repr hr.gd hr.units) rfl m_repr PyProof.Rows.boot_repr (pa_cons (pv 6) pa_nil)) (nomark _))))) (pss_one (ps_ret pe_bl)) pss_nil)
    (pss_cons (ps_expr (pe_bm PySem.F.plainAttrs_list PySem.F.slot_list_append PySem.F.type_list_append u_app (pv 2) (pa_cons (pv 6) pa_nil)))
    (pss_one (ps_if (pt_cmpR (u_eq (n := 4) hr.units) (pe_call G__law_draw hr rfl m__law_draw k__law_draw b__law_draw .nil pass0 (pa_cons (pv 5) (pa_cons pe_int pa_nil))) pe_int (nomark _)) (pss_one (ps_expr (pe_bm PySem.F.plainAttrs_list PySem.F.slot_list_append PySem.F.type_list_append u_app (pv 3) (pa_cons (pe_callB u_len rfl m_len PySem.boot_len (pa_cons (pv 2) pa_nil)) pa_nil)))) pss_nil))))))))
    (pss_cons (ps_for PassesOwn.never rfl (pi_list (pe_op u_add (pe_slice u_cut (pv 3) po_none (po_some pe_int)) (pe_lst (pa_cons (pe_callB u_len rfl m_len PySem.boot_len (pa_cons (pv 2) pa_nil)) (pa_cons pe_int pa_nil))))) (pg_name (i := 8) sclaw.nd rfl (Or.inl rfl)) (pss_one (ps_if (pt_not (pt_val (pe_call G__law_backwards_right hr rfl m__law_backwards_right k__law_backwards_right b__law_backwards_right .nil pass0 (pa_cons (pe_slice u_cut (pv 2) po_none (po_some (pv 8))) pa_nil)))) (pss_one (ps_ret pe_bl)) pss_nil)))
    (pss_one (ps_ret pe_bl)))))))), ?_⟩
  (first | ((try clear hN); refine seq_hide fun N hN => ?_) | skip); (try simp (config := { contextual := true, maxSteps := 1000000 }) only [rdH1, uRepr_0, HO.dK.injEq, rdD1, rdB1, rdA1, rdA2, rdA3, rdA4, rdA5, rdS1, rdS2, reduceIte, Nat.reduceSub, Nat.reduceAdd, String.reduceBEq, Int.reducePow, Int.reduceNeg, Int.reduceLT, Int.reduceLE, Int.reduceToNat, Int.reduceMul, Int.reduceAdd, Int.reduceSub, reduceCtorEq, Nat.reduceLeDiff, Nat.reducePow, Nat.reduceLT, Int.reduceAbs])
  refine ⟨a, ns, 0, rfl, hS, h63, by decide, fun w0 H1 s1 nw ww1 => ?_⟩
  refine ⟨w0, rfl, ww1, ⟨#[], s1 _ _ hP, trivial, .inl rfl⟩, fun h bars pieces H2 s2 nh hh => ?_⟩
  have sq2 : SqL K H2 a (ns.map V.int) := sq_E hS s1 nw hP s2
  obtain ⟨kvs, b, p, e1, e2, e3, e4, e5, hok⟩ := id hh
  (first | refine hN _ _ ?_ | skip); (first | unfold Go | skip); (first | ((try clear hN); refine seq_hide fun N hN => ?_) | skip); (try simp (config := { contextual := true, maxSteps := 1000000 }) only [rdH1, uRepr_0, HO.dK.injEq, rdD1, rdB1, rdA1, rdA2, rdA3, rdA4, rdA5, rdS1, rdS2, reduceIte, Nat.reduceSub, Nat.reduceAdd, String.reduceBEq, Int.reducePow, Int.reduceNeg, Int.reduceLT, Int.reduceLE, Int.reduceToNat, Int.reduceMul, Int.reduceAdd, Int.reduceSub, reduceCtorEq, Nat.reduceLeDiff, Nat.reducePow, Nat.reduceLT, Int.reduceAbs])
  intro rd hrd
  (first | refine hN _ _ ?_ | skip); (first | unfold Go | skip); (first | ((try clear hN); refine seq_hide fun N hN => ?_) | skip); (try simp (config := { contextual := true, maxSteps := 1000000 }) only [rdH1, uRepr_0, HO.dK.injEq, rdD1, rdB1, rdA1, rdA2, rdA3, rdA4, rdA5, rdS1, rdS2, reduceIte, Nat.reduceSub, Nat.reduceAdd, String.reduceBEq, Int.reducePow, Int.reduceNeg, Int.reduceLT, Int.reduceLE, Int.reduceToNat, Int.reduceMul, Int.reduceAdd, Int.reduceSub, reduceCtorEq, Nat.reduceLeDiff, Nat.reducePow, Nat.reduceLT, Int.reduceAbs])
  intro rc hrc
  (first | refine hN _ _ ?_ | skip); (first | unfold Go | skip); (first | ((try clear hN); refine seq_hide fun N hN => ?_) | skip); (try simp (config := { contextual := true, maxSteps := 1000000 }) only [rdH1, uRepr_0, HO.dK.injEq, rdD1, rdB1, rdA1, rdA2, rdA3, rdA4, rdA5, rdS1, rdS2, reduceIte, Nat.reduceSub, Nat.reduceAdd, String.reduceBEq, Int.reducePow, Int.reduceNeg, Int.reduceLT, Int.reduceLE, Int.reduceToNat, Int.reduceMul, Int.reduceAdd, Int.reduceSub, reduceCtorEq, Nat.reduceLeDiff, Nat.reducePow, Nat.reduceLT, Int.reduceAbs])
  intro ww hww
  have g6 : upd (upd (upd H2 rd (HO.lst [])) rc (HO.lst [])) ww (HO.lst [V.str "turn", V.str "hang", V.str "strike", V.str "put", V.str "lift", V.str "brake", V.str "loose", V.str "turn"]) = upd (upd (upd H2 rd (HO.lst [])) rc (HO.lst [])) ww (HO.lst (ways8.map V.str)) := rfl
  rw [g6]
  have hrc2 := upd_none hrc
  have hww2 := upd_none hww
  have hww3 := upd_none hww2.1
  have s3 : Same H2 (upd (upd (upd H2 rd (HO.lst [])) rc (HO.lst [])) ww (HO.lst (ways8.map V.str))) := ((same_new hrd _).trans (same_new hrc _)).trans (same_new hww _)
  have ed : (upd (upd (upd H2 rd (HO.lst [])) rc (HO.lst [])) ww (HO.lst (ways8.map V.str))) rd = some (.lst []) := same_new hww _ _ _ (same_new hrc _ _ _ upd_same)
  have ec : (upd (upd (upd H2 rd (HO.lst [])) rc (HO.lst [])) ww (HO.lst (ways8.map V.str))) rc = some (.lst []) := same_new hww _ _ _ upd_same
  have ew : (upd (upd (upd H2 rd (HO.lst [])) rc (HO.lst [])) ww (HO.lst (ways8.map V.str))) ww = some (.lst (ways8.map V.str)) := upd_same
  generalize upd (upd (upd H2 rd (HO.lst [])) rc (HO.lst [])) ww (HO.lst (ways8.map V.str)) = H3 at s3 ed ec ew ⊢
  have b1 := ne_of_none e4 hrd
  have b2 := ne_of_none e4 hrc2.1
  have p1 := ne_of_none e5 hrd
  have p2 := ne_of_none e5 hrc2.1
  (first | refine hN _ _ ?_ | skip); (first | unfold Go | skip); (first | ((try clear hN); refine seq_hide fun N hN => ?_) | skip); (try simp (config := { contextual := true, maxSteps := 1000000 }) only [rdH1, uRepr_0, HO.dK.injEq, rdD1, rdB1, rdA1, rdA2, rdA3, rdA4, rdA5, rdS1, rdS2, reduceIte, Nat.reduceSub, Nat.reduceAdd, String.reduceBEq, Int.reducePow, Int.reduceNeg, Int.reduceLT, Int.reduceLE, Int.reduceToNat, Int.reduceMul, Int.reduceAdd, Int.reduceSub, reduceCtorEq, Nat.reduceLeDiff, Nat.reducePow, Nat.reduceLT, Int.reduceAbs])
  refine ⟨a, ns, rfl, same_sq sq2 s3, h63, fun wl ps H4 s4 nwl el l60 wps => ?_⟩
  refine ⟨wl, rfl, ⟨_, .inl (.inl el)⟩, ?_⟩
  have wl1 : wl ≠ rd := (ne_of_none ed nwl).symm
  have wl2 : wl ≠ rc := (ne_of_none ec nwl).symm
  have lc : LC h b p ww wl rd rc ps H4 := ⟨by rw [s4 _ _ ed]; simp, by rw [s4 _ _ ec]; simp, hrc2.2.symm, by simp [b1, b2], by simp [p1, p2], by simp [hww2.2, hww3.2], by simp [wl1, wl2], fun q hq => ne_of_none (s3 _ _ e1) (wps q hq).1⟩
  have ls : LS h b p ww wl rd rc kvs bars pieces ps H4 H4 10 [] [] [] := ⟨fun x hx => hx, s4 _ _ (s3 _ _ e1), s4 _ _ (s3 _ _ e4), s4 _ _ (s3 _ _ e5), s4 _ _ ew, el, fun q hq => (wps q hq).2, s4 _ _ ed, s4 _ _ ec, .nil⟩
  clear s3 ed ec ew s4 el
  refine loop_list (xs := ps.map V.ref) (fun i σ H' => ∃ (vs : List V) (Ds : List Deed) (cs : List Nat) (v5 v6 v7 : Option V), σ = [some (V.ref a), some (V.ref h), some (V.ref rd), some (V.ref rc), some (V.ref ww), v5, v6, v7, none] ∧ LS h b p ww wl rd rc kvs bars pieces ps H4 H' (10 + 100 * i) vs Ds cs ∧ Ds.length ≤ i ∧ cs.length ≤ i ∧ ∀ D ∈ Ds, D.Ok) ⟨[], [], [], none, none, none, rfl, ls.mono (by omega), Nat.le_refl _, Nat.le_refl _, fun D hD => by cases hD⟩ (fun i σ H' _ ⟨_, _, _, _, _, _, _, z, _⟩ => z.el) ?_ ?_
  · rintro i x σ H' hx ⟨vs, Ds, cs, v5, v6, v7, rfl, st, lD, lC, ok⟩
    obtain ⟨w, ew, rfl⟩ : ∃ w, ps[i]? = some w ∧ x = .ref w := by
      rw [List.getElem?_map] at hx
      cases z : ps[i]? with
      | none => rw [z] at hx; cases hx
      | some y => rw [z] at hx; exact ⟨y, rfl, (Option.some.inj hx).symm⟩
    have wm := List.mem_of_getElem? ew
    have hi : i < ps.length := (List.getElem?_eq_some_iff.mp ew).1
    (first | ((try clear hN); refine seq_hide fun N hN => ?_) | skip); (try simp (config := { contextual := true, maxSteps := 1000000 }) only [rdH1, uRepr_0, HO.dK.injEq, rdD1, rdB1, rdA1, rdA2, rdA3, rdA4, rdA5, rdS1, rdS2, reduceIte, Nat.reduceSub, Nat.reduceAdd, String.reduceBEq, Int.reducePow, Int.reduceNeg, Int.reduceLT, Int.reduceLE, Int.reduceToNat, Int.reduceMul, Int.reduceAdd, Int.reduceSub, reduceCtorEq, Nat.reduceLeDiff, Nat.reducePow, Nat.reduceLT, Int.reduceAbs])
    refine ⟨w, h, ww, _, bars, pieces, rfl, st.wls w wm, by omega, ⟨kvs, b, p, st.eh, e2, e3, st.eb, st.ep, hok⟩, lc.h w wm, st.ew, fun v D J1 z1 y1 d1 oD => ?_⟩
    have st1 := st.draw lc wm z1 y1 (by omega)
    have d1' := d1.weak st.dm
    (first | refine hN _ _ ?_ | skip); (first | unfold Go | skip); (first | ((try clear hN); refine seq_hide fun N hN => ?_) | skip); (try simp (config := { contextual := true, maxSteps := 1000000 }) only [rdH1, uRepr_0, HO.dK.injEq, rdD1, rdB1, rdA1, rdA2, rdA3, rdA4, rdA5, rdS1, rdS2, reduceIte, Nat.reduceSub, Nat.reduceAdd, String.reduceBEq, Int.reducePow, Int.reduceNeg, Int.reduceLT, Int.reduceLE, Int.reduceToNat, Int.reduceMul, Int.reduceAdd, Int.reduceSub, reduceCtorEq, Nat.reduceLeDiff, Nat.reducePow, Nat.reduceLT, Int.reduceAbs])
    refine ⟨H', v, D, rfl, d1, oD, fun v' J2 z2 d2 => ?_⟩
    (first | refine hN _ _ ?_ | skip); (first | unfold Go | skip); (first | ((try clear hN); refine seq_hide fun N hN => ?_) | skip); (try simp (config := { contextual := true, maxSteps := 1000000 }) only [rdH1, uRepr_0, HO.dK.injEq, rdD1, rdB1, rdA1, rdA2, rdA3, rdA4, rdA5, rdS1, rdS2, reduceIte, Nat.reduceSub, Nat.reduceAdd, String.reduceBEq, Int.reducePow, Int.reduceNeg, Int.reduceLT, Int.reduceLE, Int.reduceToNat, Int.reduceMul, Int.reduceAdd, Int.reduceSub, reduceCtorEq, Nat.reduceLeDiff, Nat.reducePow, Nat.reduceLT, Int.reduceAbs])
    have d12 := d1.same z2
    refine ⟨H', v, D, rfl, d12, oD, fun u1 J3 z3 d3 => ?_⟩
    obtain ⟨ua, rfl⟩ := d3.ref
    obtain ⟨va, rfl⟩ := d1.ref
    obtain ⟨wa, rfl⟩ := d2.ref
    have smC := deed_sml (ctr_ok oD)
    have smD := deed_sml oD
    have d23 := d2.same z3
    (first | ((try clear hN); refine seq_hide fun N hN => ?_) | skip); (try simp (config := { contextual := true, maxSteps := 1000000 }) only [rdH1, uRepr_0, HO.dK.injEq, rdD1, rdB1, rdA1, rdA2, rdA3, rdA4, rdA5, rdS1, rdS2, reduceIte, Nat.reduceSub, Nat.reduceAdd, String.reduceBEq, Int.reducePow, Int.reduceNeg, Int.reduceLT, Int.reduceLE, Int.reduceToNat, Int.reduceMul, Int.reduceAdd, Int.reduceSub, reduceCtorEq, Nat.reduceLeDiff, Nat.reducePow, Nat.reduceLT, Int.reduceAbs])
    refine ⟨_, d3.rep, smC.sh, Nat.le_trans smC.dp (by decide), Nat.le_trans smC.ln (by decide), _, d23.rep, smC.sh, Nat.le_trans smC.dp (by decide), Nat.le_trans smC.ln (by decide), ?_⟩
    rw [if_neg (by simp)]
    refine ⟨J1, _, _, rfl, d23, ctr_ok oD, fun u2 J4 z4 d4 => ?_⟩
    rw [ctr_ctr oD] at d4
    obtain ⟨ub, rfl⟩ := d4.ref
    have d14 := (d12.same z3).same z4
    (first | ((try clear hN); refine seq_hide fun N hN => ?_) | skip); (try simp (config := { contextual := true, maxSteps := 1000000 }) only [rdH1, uRepr_0, HO.dK.injEq, rdD1, rdB1, rdA1, rdA2, rdA3, rdA4, rdA5, rdS1, rdS2, reduceIte, Nat.reduceSub, Nat.reduceAdd, String.reduceBEq, Int.reducePow, Int.reduceNeg, Int.reduceLT, Int.reduceLE, Int.reduceToNat, Int.reduceMul, Int.reduceAdd, Int.reduceSub, reduceCtorEq, Nat.reduceLeDiff, Nat.reducePow, Nat.reduceLT, Int.reduceAbs])
    refine ⟨_, d4.rep, smD.sh, Nat.le_trans smD.dp (by decide), Nat.le_trans smD.ln (by decide), _, d14.rep, smD.sh, Nat.le_trans smD.dp (by decide), Nat.le_trans smD.ln (by decide), ?_⟩
    rw [if_neg (by simp)]
    have z14 := z2.trans (z3.trans z4)
    have st4 := st1.same lc z14
    have hvs := st.al.len
    have al4 := st4.al.app (.one (d1'.same z14))
    (first | refine hN _ _ ?_ | skip); (first | unfold Go | skip); (first | ((try clear hN); refine seq_hide fun N hN => ?_) | skip); (try simp (config := { contextual := true, maxSteps := 1000000 }) only [rdH1, uRepr_0, HO.dK.injEq, rdD1, rdB1, rdA1, rdA2, rdA3, rdA4, rdA5, rdS1, rdS2, reduceIte, Nat.reduceSub, Nat.reduceAdd, String.reduceBEq, Int.reducePow, Int.reduceNeg, Int.reduceLT, Int.reduceLE, Int.reduceToNat, Int.reduceMul, Int.reduceAdd, Int.reduceSub, reduceCtorEq, Nat.reduceLeDiff, Nat.reducePow, Nat.reduceLT, Int.reduceAbs])
    refine ⟨tyV_lst st4.ed, _, st4.ed, by omega, ?_⟩
    have st5 := st4.putD lc al4
    generalize upd J4 rd (.lst (vs ++ [V.ref va])) = J5 at st5 ⊢
    (first | refine hN _ _ ?_ | skip); (first | unfold Go | skip); (first | ((try clear hN); refine seq_hide fun N hN => ?_) | skip); (try simp (config := { contextual := true, maxSteps := 1000000 }) only [rdH1, uRepr_0, HO.dK.injEq, rdD1, rdB1, rdA1, rdA2, rdA3, rdA4, rdA5, rdS1, rdS2, reduceIte, Nat.reduceSub, Nat.reduceAdd, String.reduceBEq, Int.reducePow, Int.reduceNeg, Int.reduceLT, Int.reduceLE, Int.reduceToNat, Int.reduceMul, Int.reduceAdd, Int.reduceSub, reduceCtorEq, Nat.reduceLeDiff, Nat.reducePow, Nat.reduceLT, Int.reduceAbs])
    refine ⟨w, 6, _, rfl, st5.wls w wm, by omega, by decide, by decide, fun dr J6 dr0 dr1 z6 y6 => ?_⟩
    have st6 := st5.draw lc wm z6 y6 (by omega)
    have ok6 : ∀ D' ∈ Ds ++ [D], D'.Ok := fun D' hD' => (List.mem_append.mp hD').elim (ok D') fun z => by rw [List.mem_singleton.mp z]; exact oD
    have l6 : (Ds ++ [D]).length ≤ i + 1 := by rw [List.length_append]; show _ + 1 ≤ _; omega
    (first | ((try clear hN); refine seq_hide fun N hN => ?_) | skip); (try simp (config := { contextual := true, maxSteps := 1000000 }) only [rdH1, uRepr_0, HO.dK.injEq, rdD1, rdB1, rdA1, rdA2, rdA3, rdA4, rdA5, rdS1, rdS2, reduceIte, Nat.reduceSub, Nat.reduceAdd, String.reduceBEq, Int.reducePow, Int.reduceNeg, Int.reduceLT, Int.reduceLE, Int.reduceToNat, Int.reduceMul, Int.reduceAdd, Int.reduceSub, reduceCtorEq, Nat.reduceLeDiff, Nat.reducePow, Nat.reduceLT, Int.reduceAbs, st6.ed])
    refine ite2 (fun _ => ⟨tyV_lst st6.ec, _, st6.ec, by rw [List.length_map]; omega, ?_⟩) (fun _ => ⟨_, _, _, st6.mono (by omega), l6, by omega, ok6⟩)
    have st7 := st6.putC lc (ks := cs ++ [(vs ++ [V.ref va]).length])
    rw [List.map_append] at st7
    exact ⟨_, _, _, st7.mono (by omega), l6, by rw [List.length_append]; show _ + 1 ≤ _; omega, ok6⟩
  · rintro σ H' ⟨vs, Ds, cs, v5, v6, v7, rfl, st, lD, lC, ok⟩
    rw [List.length_map] at lD lC
    have hvs := st.al.len
    (first | refine hN _ _ ?_ | skip); (first | unfold Go | skip); (first | ((try clear hN); refine seq_hide fun N hN => ?_) | skip); (try simp (config := { contextual := true, maxSteps := 1000000 }) only [rdH1, uRepr_0, HO.dK.injEq, rdD1, rdB1, rdA1, rdA2, rdA3, rdA4, rdA5, rdS1, rdS2, reduceIte, Nat.reduceSub, Nat.reduceAdd, String.reduceBEq, Int.reducePow, Int.reduceNeg, Int.reduceLT, Int.reduceLE, Int.reduceToNat, Int.reduceMul, Int.reduceAdd, Int.reduceSub, reduceCtorEq, Nat.reduceLeDiff, Nat.reducePow, Nat.reduceLT, Int.reduceAbs])
    refine ⟨_, st.ec, ?_⟩
    intro c1 hc1
    refine ⟨_, by rw [same_new hc1 _ _ _ st.ed]; rfl, ?_⟩
    rw [show (6 : Int) = ((6 : Nat) : Int) from rfl, cut_take, ← List.map_take]
    intro c2 hc2
    refine ⟨by rw [List.length_map, List.length_take]; omega, ?_⟩
    intro c3 hc3
    have s9 := ((same_new hc1 (.lst ((cs.take 6).map nI))).trans (same_new hc2 (.lst [V.int vs.length, V.int 0]))).trans (same_new hc3 (.lst ((cs.take 6).map nI ++ [V.int vs.length, V.int 0])))
    have ek : (cs.take 6).map nI ++ [V.int vs.length, V.int 0] = (cs.take 6 ++ [vs.length, 0]).map nI := by rw [List.map_append]; rfl
    rw [ek] at s9 ⊢
    have e9 : (upd (upd (upd H' c1 (.lst ((cs.take 6).map nI))) c2 (.lst [V.int vs.length, V.int 0])) c3 (.lst ((cs.take 6 ++ [vs.length, 0]).map nI))) c3 = _ := upd_same
    generalize upd (upd (upd H' c1 (.lst ((cs.take 6).map nI))) c2 (.lst [V.int vs.length, V.int 0])) c3 (.lst ((cs.take 6 ++ [vs.length, 0]).map nI)) = H9 at s9 e9 ⊢
    have ed9 := s9 _ _ st.ed
    have al9 := st.al.imp fun _ _ z => z.same s9
    refine loop_list (xs := (cs.take 6 ++ [vs.length, 0]).map nI) (fun i σ H' => ∃ (v8 : Option V), σ = [some (V.ref a), some (V.ref h), some (V.ref rd), some (V.ref rc), some (V.ref ww), v5, v6, v7, v8] ∧ Same H9 H') ⟨none, rfl, Same.refl _⟩ (fun i σ H' _ ⟨_, _, z⟩ => z _ _ e9) ?_ ?_
    · rintro i x σ J hx ⟨v8, rfl, sm⟩
      obtain ⟨m, rfl⟩ : ∃ m : Nat, x = .int (m : Nat) := by
        obtain ⟨m, _, e⟩ := List.mem_map.mp (List.mem_of_getElem? hx)
        exact ⟨m, e.symm⟩
      (first | ((try clear hN); refine seq_hide fun N hN => ?_) | skip); (try simp (config := { contextual := true, maxSteps := 1000000 }) only [rdH1, uRepr_0, HO.dK.injEq, rdD1, rdB1, rdA1, rdA2, rdA3, rdA4, rdA5, rdS1, rdS2, reduceIte, Nat.reduceSub, Nat.reduceAdd, String.reduceBEq, Int.reducePow, Int.reduceNeg, Int.reduceLT, Int.reduceLE, Int.reduceToNat, Int.reduceMul, Int.reduceAdd, Int.reduceSub, reduceCtorEq, Nat.reduceLeDiff, Nat.reducePow, Nat.reduceLT, Int.reduceAbs, sm _ _ ed9])
      intro sl hsl
      rw [cut_take]
      have s10 := sm.trans (same_new hsl (.lst (vs.take m)))
      refine ⟨sl, vs.take m, Ds.take m, rfl, upd_same, (al9.take m).imp (fun _ _ z => (z.same s10).weak fun _ _ => rfl), fun D hD => ok D (List.mem_of_mem_take hD), by rw [List.length_take]; omega, fun J2 z2 => ?_⟩
      (first | ((try clear hN); refine seq_hide fun N hN => ?_) | skip); (try simp (config := { contextual := true, maxSteps := 1000000 }) only [rdH1, uRepr_0, HO.dK.injEq, rdD1, rdB1, rdA1, rdA2, rdA3, rdA4, rdA5, rdS1, rdS2, reduceIte, Nat.reduceSub, Nat.reduceAdd, String.reduceBEq, Int.reducePow, Int.reduceNeg, Int.reduceLT, Int.reduceLE, Int.reduceToNat, Int.reduceMul, Int.reduceAdd, Int.reduceSub, reduceCtorEq, Nat.reduceLeDiff, Nat.reducePow, Nat.reduceLT, Int.reduceAbs])
      exact s10.trans z2
    · rintro σ J ⟨v8, rfl, sm⟩
      (first | refine hN _ _ ?_ | skip); (first | unfold Go | skip); (first | ((try clear hN); refine seq_hide fun N hN => ?_) | skip); (try simp (config := { contextual := true, maxSteps := 1000000 }) only [rdH1, uRepr_0, HO.dK.injEq, rdD1, rdB1, rdA1, rdA2, rdA3, rdA4, rdA5, rdS1, rdS2, reduceIte, Nat.reduceSub, Nat.reduceAdd, String.reduceBEq, Int.reducePow, Int.reduceNeg, Int.reduceLT, Int.reduceLE, Int.reduceToNat, Int.reduceMul, Int.reduceAdd, Int.reduceSub, reduceCtorEq, Nat.reduceLeDiff, Nat.reducePow, Nat.reduceLT, Int.reduceAbs])
      exact q _
/-! ### the module's own dict -/
theorem kdict_all {P : Program} {w : World} : ∀ {es : List DictEntry} {kvs : List (Key × V)}, All2 (fun (en : DictEntry) (kv : Key × V) => en.hash = keyH w kv.1 ∧ keyIs kv.1 en.key = true ∧ RelV kv.2 en.val) es kvs →
    ∃ vs : List (Key × Value), KV kvs vs ∧ Pairs (mixKind P w) es vs ∧ vs.map (·.1) = kvs.map (·.1) ∧ ∀ en ∈ es, ∃ k, (mixKind P w).is k en.key = true ∧ en.hash = (mixKind P w).hash k
  | _, _, .nil => ⟨[], .nil, .nil, rfl, fun en h => by cases h⟩
  | _, _, .cons (x := en) (y := kv) ⟨a, b, c⟩ t => by
    obtain ⟨vs, h1, h2, h3, h4⟩ := kdict_all (P := P) t
    refine ⟨(kv.1, en.val) :: vs, .cons ⟨rfl, c⟩ h1, .cons b rfl h2, by rw [List.map_cons, List.map_cons, h3], fun e he => ?_⟩
    rcases List.mem_cons.mp he with rfl | he
    · exact ⟨kv.1, b, a⟩
    · exact h4 e he
theorem kdict_mk {K : PySem.W.Frag} {P : Program} {w : World} {aC : Addr} {o : Obj} {es : List DictEntry} {ep : Nat} {kvs : List (Key × V)} (e : K.lookup aC = some o) (x : o.ExactDict) (d : o.data = .dict es.toArray ep) (hs : All2 (fun (en : DictEntry) (kv : Key × V) => en.hash = keyH w kv.1 ∧ keyIs kv.1 en.key = true ∧ RelV kv.2 en.val) es kvs) (nd : (kvs.map (·.1)).Nodup) : KDict K P w aC kvs := by
  intro h Y
  obtain ⟨vs, h1, h2, h3, h4⟩ := kdict_all (P := P) hs
  exact ⟨vs, h1, o, es.toArray, ep, Y _ _ e, x, d, fun en hen => h4 en (by simpa using hen), h2, by rw [h3]; exact nd⟩
end
end K64
namespace K64
open PySem L2 PySem.NumText
theorem all_mk {l : PySem.W.OpenLaw} {w : World} {K : PySem.W.Frag} {h : Heap} {mg : Str → Option Value} {fa f1 f2 f3 f4 f5 f6 f7 f8 f9 f10 f11 f12 f13 f14 f15 f16 : Addr}  (X : K.In h) (G : h.Ns mainGlobals mg) (hfa : mg "law" = some (.ref fa))
    {od1 an1 od2 an2 od3 an3 od4 an4 od5 an5 od6 an6 od7 an7 od8 an8 od9 an9 od10 an10 od11 an11 od12 an12 od13 an13 od14 an14 od15 an15 od16 an16 : Option Addr} {sl1 sl2 sl3 sl4 sl5 sl6 sl7 sl8 sl9 sl10 sl11 sl12 sl13 sl14 sl15 sl16 : Array (Option Value)} {oc1 kV1 dc1 pm1 cd1 ct1 oc2 kV2 dc2 pm2 cd2 ct2 oc3 kV3 dc3 pm3 cd3 ct3 oc4 kV4 dc4 pm4 cd4 ct4 oc5 kV5 dc5 pm5 cd5 ct5 oc6 kV6 dc6 pm6 cd6 ct6 oc7 kV7 dc7 pm7 cd7 ct7 oc8 kV8 dc8 pm8 cd8 ct8 oc9 kV9 dc9 pm9 cd9 ct9 oc10 kV10 dc10 pm10 cd10 ct10 oc11 kV11 dc11 pm11 cd11 ct11 oc12 kV12 dc12 pm12 cd12 ct12 oc13 kV13 dc13 pm13 cd13 ct13 oc14 kV14 dc14 pm14 cd14 ct14 oc15 kV15 dc15 pm15 cd15 ct15 oc16 kV16 dc16 pm16 cd16 ct16 : Value}
    (a1 : PySem.W.nsIn K mainGlobals "undone" = some (some (.ref f1))) (l1 : K.lookup f1 = some ⟨oc1, od1, .func (PySem.W.fnOf "undone" "undone" (defArgs sundone) (defBody sundone) (defScope sundone) .none kV1 dc1 pm1 an1 cd1 ct1), sl1⟩) (c1 : PySem.W.codeIn K cd1 "undone" = true) (k1 : PySem.W.keepIn K (.ref f1) = true)
    (a2 : PySem.W.nsIn K mainGlobals "backwards" = some (some (.ref f2))) (l2 : K.lookup f2 = some ⟨oc2, od2, .func (PySem.W.fnOf "backwards" "backwards" (defArgs sbackwards) (defBody sbackwards) (defScope sbackwards) .none kV2 dc2 pm2 an2 cd2 ct2), sl2⟩) (c2 : PySem.W.codeIn K cd2 "backwards" = true) (k2 : PySem.W.keepIn K (.ref f2) = true)
    (a3 : PySem.W.nsIn K mainGlobals "_law_well" = some (some (.ref f3))) (l3 : K.lookup f3 = some ⟨oc3, od3, .func (PySem.W.fnOf "_law_well" "_law_well" (defArgs s_law_well) (defBody s_law_well) (defScope s_law_well) .none kV3 dc3 pm3 an3 cd3 ct3), sl3⟩) (c3 : PySem.W.codeIn K cd3 "_law_well" = true) (k3 : PySem.W.keepIn K (.ref f3) = true)
    (a4 : PySem.W.nsIn K mainGlobals "_law_draw" = some (some (.ref f4))) (l4 : K.lookup f4 = some ⟨oc4, od4, .func (PySem.W.fnOf "_law_draw" "_law_draw" (defArgs s_law_draw) (defBody s_law_draw) (defScope s_law_draw) .none kV4 dc4 pm4 an4 cd4 ct4), sl4⟩) (c4 : PySem.W.codeIn K cd4 "_law_draw" = true) (k4 : PySem.W.keepIn K (.ref f4) = true)
    (a5 : PySem.W.nsIn K mainGlobals "_law_wells" = some (some (.ref f5))) (l5 : K.lookup f5 = some ⟨oc5, od5, .func (PySem.W.fnOf "_law_wells" "_law_wells" (defArgs s_law_wells) (defBody s_law_wells) (defScope s_law_wells) .none kV5 dc5 pm5 an5 cd5 ct5), sl5⟩) (c5 : PySem.W.codeIn K cd5 "_law_wells" = true) (k5 : PySem.W.keepIn K (.ref f5) = true)
    (a6 : PySem.W.nsIn K mainGlobals "_law_names" = some (some (.ref f6))) (l6 : K.lookup f6 = some ⟨oc6, od6, .func (PySem.W.fnOf "_law_names" "_law_names" (defArgs s_law_names) (defBody s_law_names) (defScope s_law_names) .none kV6 dc6 pm6 an6 cd6 ct6), sl6⟩) (c6 : PySem.W.codeIn K cd6 "_law_names" = true) (k6 : PySem.W.keepIn K (.ref f6) = true)
    (a7 : PySem.W.nsIn K mainGlobals "_law_bar_told" = some (some (.ref f7))) (l7 : K.lookup f7 = some ⟨oc7, od7, .func (PySem.W.fnOf "_law_bar_told" "_law_bar_told" (defArgs s_law_bar_told) (defBody s_law_bar_told) (defScope s_law_bar_told) .none kV7 dc7 pm7 an7 cd7 ct7), sl7⟩) (c7 : PySem.W.codeIn K cd7 "_law_bar_told" = true) (k7 : PySem.W.keepIn K (.ref f7) = true)
    (a8 : PySem.W.nsIn K mainGlobals "_law_bay_told" = some (some (.ref f8))) (l8 : K.lookup f8 = some ⟨oc8, od8, .func (PySem.W.fnOf "_law_bay_told" "_law_bay_told" (defArgs s_law_bay_told) (defBody s_law_bay_told) (defScope s_law_bay_told) .none kV8 dc8 pm8 an8 cd8 ct8), sl8⟩) (c8 : PySem.W.codeIn K cd8 "_law_bay_told" = true) (k8 : PySem.W.keepIn K (.ref f8) = true)
    (a9 : PySem.W.nsIn K mainGlobals "_law_house" = some (some (.ref f9))) (l9 : K.lookup f9 = some ⟨oc9, od9, .func (PySem.W.fnOf "_law_house" "_law_house" (defArgs s_law_house) (defBody s_law_house) (defScope s_law_house) .none kV9 dc9 pm9 an9 cd9 ct9), sl9⟩) (c9 : PySem.W.codeIn K cd9 "_law_house" = true) (k9 : PySem.W.keepIn K (.ref f9) = true)
    (a10 : PySem.W.nsIn K mainGlobals "_law_bar_by" = some (some (.ref f10))) (l10 : K.lookup f10 = some ⟨oc10, od10, .func (PySem.W.fnOf "_law_bar_by" "_law_bar_by" (defArgs s_law_bar_by) (defBody s_law_bar_by) (defScope s_law_bar_by) .none kV10 dc10 pm10 an10 cd10 ct10), sl10⟩) (c10 : PySem.W.codeIn K cd10 "_law_bar_by" = true) (k10 : PySem.W.keepIn K (.ref f10) = true)
    (a11 : PySem.W.nsIn K mainGlobals "_law_piece_by" = some (some (.ref f11))) (l11 : K.lookup f11 = some ⟨oc11, od11, .func (PySem.W.fnOf "_law_piece_by" "_law_piece_by" (defArgs s_law_piece_by) (defBody s_law_piece_by) (defScope s_law_piece_by) .none kV11 dc11 pm11 an11 cd11 ct11), sl11⟩) (c11 : PySem.W.codeIn K cd11 "_law_piece_by" = true) (k11 : PySem.W.keepIn K (.ref f11) = true)
    (a12 : PySem.W.nsIn K mainGlobals "_law_moves" = some (some (.ref f12))) (l12 : K.lookup f12 = some ⟨oc12, od12, .func (PySem.W.fnOf "_law_moves" "_law_moves" (defArgs s_law_moves) (defBody s_law_moves) (defScope s_law_moves) .none kV12 dc12 pm12 an12 cd12 ct12), sl12⟩) (c12 : PySem.W.codeIn K cd12 "_law_moves" = true) (k12 : PySem.W.keepIn K (.ref f12) = true)
    (a13 : PySem.W.nsIn K mainGlobals "_law_deed_by" = some (some (.ref f13))) (l13 : K.lookup f13 = some ⟨oc13, od13, .func (PySem.W.fnOf "_law_deed_by" "_law_deed_by" (defArgs s_law_deed_by) (defBody s_law_deed_by) (defScope s_law_deed_by) .none kV13 dc13 pm13 an13 cd13 ct13), sl13⟩) (c13 : PySem.W.codeIn K cd13 "_law_deed_by" = true) (k13 : PySem.W.keepIn K (.ref f13) = true)
    (a14 : PySem.W.nsIn K mainGlobals "_law_contrary" = some (some (.ref f14))) (l14 : K.lookup f14 = some ⟨oc14, od14, .func (PySem.W.fnOf "_law_contrary" "_law_contrary" (defArgs s_law_contrary) (defBody s_law_contrary) (defScope s_law_contrary) .none kV14 dc14 pm14 an14 cd14 ct14), sl14⟩) (c14 : PySem.W.codeIn K cd14 "_law_contrary" = true) (k14 : PySem.W.keepIn K (.ref f14) = true)
    (a15 : PySem.W.nsIn K mainGlobals "_law_backwards_right" = some (some (.ref f15))) (l15 : K.lookup f15 = some ⟨oc15, od15, .func (PySem.W.fnOf "_law_backwards_right" "_law_backwards_right" (defArgs s_law_backwards_right) (defBody s_law_backwards_right) (defScope s_law_backwards_right) .none kV15 dc15 pm15 an15 cd15 ct15), sl15⟩) (c15 : PySem.W.codeIn K cd15 "_law_backwards_right" = true) (k15 : PySem.W.keepIn K (.ref f15) = true)
    (a16 : PySem.W.nsIn K mainGlobals "law" = some (some (.ref f16))) (l16 : K.lookup f16 = some ⟨oc16, od16, .func (PySem.W.fnOf "law" "law" (defArgs slaw) (defBody slaw) (defScope slaw) .none kV16 dc16 pm16 an16 cd16 ct16), sl16⟩) (c16 : PySem.W.codeIn K cd16 "law" = true) (k16 : PySem.W.keepIn K (.ref f16) = true)
    (z1 : PySem.W.nsIn K mainGlobals "reversed" = some none)
    (z2 : PySem.W.nsIn K mainGlobals "len" = some none)
    (z3 : PySem.W.nsIn K mainGlobals "range" = some none)
    (z4 : PySem.W.nsIn K mainGlobals "min" = some none)
    (z5 : PySem.W.nsIn K mainGlobals "sorted" = some none)
    (z6 : PySem.W.nsIn K mainGlobals "int" = some none)
    (z7 : PySem.W.nsIn K mainGlobals "repr" = some none)
    (z8 : PySem.W.nsIn K mainGlobals "isinstance" = some none)
    (z9 : PySem.W.nsIn K mainGlobals "list" = some none)
    {PT cL : Addr} (qc : cd8 = .ref cL) (hc : PySem.W.codeHdIn K cL PT = true) (n4 : mainGlobals ≠ PT)
    {a_CONTRARY : Addr} (g_CONTRARY : PySem.W.nsIn K mainGlobals "CONTRARY" = some (some (.ref a_CONTRARY))) (D_CONTRARY : KDict K l.prog w a_CONTRARY [(Sum.inr "brake", .str "loose"), (Sum.inr "loose", .str "brake"), (Sum.inr "hang", .str "strike"), (Sum.inr "strike", .str "hang"), (Sum.inr "put", .str "lift"), (Sum.inr "lift", .str "put")])
    : ∃ fd : FuncData, (∀ (s : Shared) (v : Value), BindsTo s fd ⟨[v], []⟩ [("_law_script", v)]) ∧ ∀ base : Heap, K.In base → base.Ns mainGlobals mg → base.BuiltinsAt mg PT → FnOk l.prog w K mg base CX0 4 fa fd ["_law_script"] (spLaw K PT) := by
  have e := hfa.symm.trans (PySem.W.mg_of X G a16)
  cases e
  have F1 := fun_mk (st := sundone) l1 c1 k1
  have b1 := F1.binds (ps := ["deed"]) fun _ _ _ _ _ _ us hl => match us, hl with | [_], _ => rfl
  have m1 := PySem.W.mg_of X G a1
  have F2 := fun_mk (st := sbackwards) l2 c2 k2
  have b2 := F2.binds (ps := ["deeds"]) fun _ _ _ _ _ _ us hl => match us, hl with | [_], _ => rfl
  have m2 := PySem.W.mg_of X G a2
  have F3 := fun_mk (st := s_law_well) l3 c3 k3
  have b3 := F3.binds (ps := ["_law_script", "_law_k"]) fun _ _ _ _ _ _ us hl => match us, hl with | [_, _], _ => rfl
  have m3 := PySem.W.mg_of X G a3
  have F4 := fun_mk (st := s_law_draw) l4 c4 k4
  have b4 := F4.binds (ps := ["_law_well_here", "_law_many"]) fun _ _ _ _ _ _ us hl => match us, hl with | [_, _], _ => rfl
  have m4 := PySem.W.mg_of X G a4
  have F5 := fun_mk (st := s_law_wells) l5 c5 k5
  have b5 := F5.binds (ps := ["_law_script", "_law_first", "_law_most"]) fun _ _ _ _ _ _ us hl => match us, hl with | [_, _, _], _ => rfl
  have m5 := PySem.W.mg_of X G a5
  have F6 := fun_mk (st := s_law_names) l6 c6 k6
  have b6 := F6.binds (ps := ["_law_well_here", "_law_many", "_law_base"]) fun _ _ _ _ _ _ us hl => match us, hl with | [_, _, _], _ => rfl
  have m6 := PySem.W.mg_of X G a6
  have F7 := fun_mk (st := s_law_bar_told) l7 c7 k7
  have b7 := F7.binds (ps := ["_law_well_here", "_law_plate", "_law_heavy"]) fun _ _ _ _ _ _ us hl => match us, hl with | [_, _, _], _ => rfl
  have m7 := PySem.W.mg_of X G a7
  have F8 := fun_mk (st := s_law_bay_told) l8 c8 k8
  have b8 := F8.binds (ps := ["_law_well_here", "_law_house_here"]) fun _ _ _ _ _ _ us hl => match us, hl with | [_, _], _ => rfl
  have m8 := PySem.W.mg_of X G a8
  have F9 := fun_mk (st := s_law_house) l9 c9 k9
  have b9 := F9.binds (ps := ["_law_well_here"]) fun _ _ _ _ _ _ us hl => match us, hl with | [_], _ => rfl
  have m9 := PySem.W.mg_of X G a9
  have F10 := fun_mk (st := s_law_bar_by) l10 c10 k10
  have b10 := F10.binds (ps := ["_law_well_here", "_law_house_here"]) fun _ _ _ _ _ _ us hl => match us, hl with | [_, _], _ => rfl
  have m10 := PySem.W.mg_of X G a10
  have F11 := fun_mk (st := s_law_piece_by) l11 c11 k11
  have b11 := F11.binds (ps := ["_law_well_here", "_law_house_here"]) fun _ _ _ _ _ _ us hl => match us, hl with | [_, _], _ => rfl
  have m11 := PySem.W.mg_of X G a11
  have F12 := fun_mk (st := s_law_moves) l12 c12 k12
  have b12 := F12.binds (ps := ["_law_well_here", "_law_house_here"]) fun _ _ _ _ _ _ us hl => match us, hl with | [_, _], _ => rfl
  have m12 := PySem.W.mg_of X G a12
  have F13 := fun_mk (st := s_law_deed_by) l13 c13 k13
  have b13 := F13.binds (ps := ["_law_well_here", "_law_house_here", "_law_ways"]) fun _ _ _ _ _ _ us hl => match us, hl with | [_, _, _], _ => rfl
  have m13 := PySem.W.mg_of X G a13
  have F14 := fun_mk (st := s_law_contrary) l14 c14 k14
  have b14 := F14.binds (ps := ["_law_deed"]) fun _ _ _ _ _ _ us hl => match us, hl with | [_], _ => rfl
  have m14 := PySem.W.mg_of X G a14
  have F15 := fun_mk (st := s_law_backwards_right) l15 c15 k15
  have b15 := F15.binds (ps := ["_law_deeds"]) fun _ _ _ _ _ _ us hl => match us, hl with | [_], _ => rfl
  have m15 := PySem.W.mg_of X G a15
  have F16 := fun_mk (st := slaw) l16 c16 k16
  have b16 := F16.binds (ps := ["_law_script"]) fun _ _ _ _ _ _ us hl => match us, hl with | [_], _ => rfl
  have m16 := PySem.W.mg_of X G a16
  have y_reversed := PySem.W.mg_none_of X G z1
  have y_len := PySem.W.mg_none_of X G z2
  have y_range := PySem.W.mg_none_of X G z3
  have y_min := PySem.W.mg_none_of X G z4
  have y_sorted := PySem.W.mg_none_of X G z5
  have y_int := PySem.W.mg_none_of X G z6
  have y_repr := PySem.W.mg_none_of X G z7
  have y_isinstance := PySem.W.mg_none_of X G z8
  have y_list := PySem.W.mg_none_of X G z9
  refine ⟨PySem.W.fnOf "law" "law" (defArgs slaw) (defBody slaw) (defScope slaw) .none kV16 dc16 pm16 an16 cd16 ct16, fun s v => .of_eq rfl, fun base _ _ hblt => ?_⟩
  have A_undone : FnOk l.prog w K mg base CX0 1 _ _ _ spCtr := okundone  F1 (PySem.W.mg_of X G g_CONTRARY) D_CONTRARY
  have A_backwards : FnOk l.prog w K mg base CX0 2 _ _ _ spBack := okbackwards  F2 (A_undone.mono (by decide)) b1 k1 m1 y_reversed
  have A__law_well : FnOk l.prog w K mg base CX0 1 _ _ _ (spWell K) := ok_law_well  F3 y_len
  have A__law_draw : FnOk l.prog w K mg base CX0 1 _ _ _ spDraw := ok_law_draw  F4 
  have A__law_wells : FnOk l.prog w K mg base CX0 2 _ _ _ (spWells K) := ok_law_wells  F5 (A__law_draw.mono (by decide)) b4 k4 m4 (A__law_well.mono (by decide)) b3 k3 m3 y_range y_min y_len
  have A__law_names : FnOk l.prog w K mg base CX0 2 _ _ _ spNames := ok_law_names  F6 (A__law_draw.mono (by decide)) b4 k4 m4 y_range
  have A__law_bar_told : FnOk l.prog w K mg base CX0 2 _ _ _ spBarT := ok_law_bar_told  F7 (A__law_draw.mono (by decide)) b4 k4 m4
  have A__law_bay_told : FnOk l.prog w K mg base CX0 2 _ _ _ (spBay PT) := ok_law_bay_told  F8 (A__law_draw.mono (by decide)) b4 k4 m4 ⟨⟨cL, qc, fun h Y => PySem.W.codeHd_of_K Y hc⟩, hblt, n4⟩ y_sorted
  have A__law_house : FnOk l.prog w K mg base CX0 3 _ _ _ (spHouse PT) := ok_law_house  F9 (A__law_draw.mono (by decide)) b4 k4 m4 (A__law_bay_told.mono (by decide)) b8 k8 m8 (A__law_names.mono (by decide)) b6 k6 m6 (A__law_bar_told.mono (by decide)) b7 k7 m7 y_range y_len y_int
  have A__law_bar_by : FnOk l.prog w K mg base CX0 2 _ _ _ spBarBy := ok_law_bar_by  F10 (A__law_draw.mono (by decide)) b4 k4 m4 y_len
  have A__law_piece_by : FnOk l.prog w K mg base CX0 2 _ _ _ spBarBy := ok_law_piece_by  F11 (A__law_draw.mono (by decide)) b4 k4 m4 y_len
  have A__law_moves : FnOk l.prog w K mg base CX0 2 _ _ _ spMoves := ok_law_moves  F12 (A__law_draw.mono (by decide)) b4 k4 m4 y_len y_range
  have A__law_deed_by : FnOk l.prog w K mg base CX0 3 _ _ _ spDeedBy := ok_law_deed_by  F13 (A__law_piece_by.mono (by decide)) b11 k11 m11 (A__law_bar_by.mono (by decide)) b10 k10 m10 (A__law_moves.mono (by decide)) b12 k12 m12 (A__law_draw.mono (by decide)) b4 k4 m4 y_len
  have A__law_contrary : FnOk l.prog w K mg base CX0 1 _ _ _ spCtr := ok_law_contrary  F14 
  have A__law_backwards_right : FnOk l.prog w K mg base CX0 3 _ _ _ spBackR := ok_law_backwards_right  F15 (A_backwards.mono (by decide)) b2 k2 m2 (A__law_contrary.mono (by decide)) b14 k14 m14 y_range y_repr y_isinstance y_list y_reversed
  have A_law : FnOk l.prog w K mg base CX0 4 _ _ _ (spLaw K PT) := oklaw  F16 (A__law_backwards_right.mono (by decide)) b15 k15 m15 (A__law_wells.mono (by decide)) b5 k5 m5 (A__law_draw.mono (by decide)) b4 k4 m4 (A_undone.mono (by decide)) b1 k1 m1 (A__law_contrary.mono (by decide)) b14 k14 m14 (A__law_deed_by.mono (by decide)) b13 k13 m13 (A__law_house.mono (by decide)) b9 k9 m9 (A__law_well.mono (by decide)) b3 k3 m3 y_len y_repr
  exact A_law
theorem walk {PT : Addr} {l : PySem.W.OpenLaw} {q : Program} {loose : List Str} {XP : (Str → Option Value) → Heap → Prop} {YP : World → Heap → Prop} {d : DefRec} {K : Params → PySem.W.Frag} (hn : l.most = some 63) (hdf : d.params.defaults = [])
    (hY : ∀ (w : World) (h : Heap), YP w h → (K w.params).In h) (hT : ∀ (w : World) (h : Heap), YP w h → h.get? PT = some (PySem.W.tabObj #[]) ∧ (K w.params).lookup PT = none ∧ isCodeTable h PT)
    (F : ∀ (w : World) (mg : Str → Option Value) (fa : Addr) (h : Heap), (K w.params).In h → h.Ns mainGlobals mg → mg d.name = some (.ref fa) →
      ∃ fd : FuncData, (∀ (s : Shared) (u : Value), BindsTo s fd ⟨[u], []⟩ [("_law_script", u)]) ∧ ∀ base : Heap, (K w.params).In base → base.Ns mainGlobals mg → base.BuiltinsAt mg PT → FnOk l.prog w (K w.params) mg base CX0 4 fa fd ["_law_script"] (spLaw (K w.params) PT)) :
    PySem.W.WalkO q loose XP YP l.row.toRowW d [] (fun f vs => PySem.call f vs) :=
  L2.walk_ofT (PT := PT) (n := 63) (k := 4) (x := "_law_script") (CX := fun _ => CX0) (sp := fun w => spLaw (K w.params) PT) hn (by decide) hdf ⟨rfl, by decide, by decide, rfl⟩ hY hT F (fun _ _ a ns hl hp hS => ⟨a, ns, rfl, hS, hl, hp, fun _ => rfl⟩) fun _ _ _ _ _ z => z
theorem isTab {K : PySem.W.Frag} {h : Heap} {c P : Addr} (X : K.In h) (e : PySem.W.codeHdIn K c P = true) : isCodeTable h P := by
  obtain ⟨o, vs, _, _, _, _, _, _, _, h1, h2, h3, h4, _⟩ := PySem.W.codeHd_of_K X e
  exact ⟨c, o, vs, h1, h2, h3, h4⟩
end K64
open PySem PySem.W PyProof.Rows
set_option maxRecDepth 100000 in
set_option maxHeartbeats 0 in
theorem PySem.Challenge.cw_flyloft_k64_deeds_undone_holds : PySem.Challenge.rw_flyloft_k64_deeds_undone.Holds := by
  w_on; o_law; k_head; (case hw => w_witness2)
  k_fill
  refine K64.walk (PT := 58) (l := PySem.Challenge.rw_flyloft_k64_deeds_undone) rfl rfl (fun w h Y => PySem.W.km_in_of Y) (fun w h Y => ⟨PySem.W.km_tabs_of Y 58 (by k_mem), ?T1, ?T2⟩) ?F
  case T1 => with_unfolding_all rfl
  case T2 => exact K64.isTab (c := 62) (PySem.W.km_in_of Y) (by kernel_rfl)
  case F =>
    intro w mg fa h KX G hmg
    refine' K64.all_mk (PT := 58) (cL := 62) KX G hmg ?a1 ?l1 ?c1 ?k1 ?a2 ?l2 ?c2 ?k2 ?a3 ?l3 ?c3 ?k3 ?a4 ?l4 ?c4 ?k4 ?a5 ?l5 ?c5 ?k5 ?a6 ?l6 ?c6 ?k6 ?a7 ?l7 ?c7 ?k7 ?a8 ?l8 ?c8 ?k8 ?a9 ?l9 ?c9 ?k9 ?a10 ?l10 ?c10 ?k10 ?a11 ?l11 ?c11 ?k11 ?a12 ?l12 ?c12 ?k12 ?a13 ?l13 ?c13 ?k13 ?a14 ?l14 ?c14 ?k14 ?a15 ?l15 ?c15 ?k15 ?a16 ?l16 ?c16 ?k16 ?z1 ?z2 ?z3 ?z4 ?z5 ?z6 ?z7 ?z8 ?z9 ?uqc ?uhc ?un4 ?g_CONTRARY ?D_CONTRARY
    (case a1 => k_is)
    (case l1 => k_is)
    (case c1 => k_is)
    (case k1 => k_is)
    (case a2 => k_is)
    (case l2 => k_is)
    (case c2 => k_is)
    (case k2 => k_is)
    (case a3 => k_is)
    (case l3 => k_is)
    (case c3 => k_is)
    (case k3 => k_is)
    (case a4 => k_is)
    (case l4 => k_is)
    (case c4 => k_is)
    (case k4 => k_is)
    (case a5 => k_is)
    (case l5 => k_is)
    (case c5 => k_is)
    (case k5 => k_is)
    (case a6 => k_is)
    (case l6 => k_is)
    (case c6 => k_is)
    (case k6 => k_is)
    (case a7 => k_is)
    (case l7 => k_is)
    (case c7 => k_is)
    (case k7 => k_is)
    (case a8 => k_is)
    (case l8 => k_is)
    (case c8 => k_is)
    (case k8 => k_is)
    (case a9 => k_is)
    (case l9 => k_is)
    (case c9 => k_is)
    (case k9 => k_is)
    (case a10 => k_is)
    (case l10 => k_is)
    (case c10 => k_is)
    (case k10 => k_is)
    (case a11 => k_is)
    (case l11 => k_is)
    (case c11 => k_is)
    (case k11 => k_is)
    (case a12 => k_is)
    (case l12 => k_is)
    (case c12 => k_is)
    (case k12 => k_is)
    (case a13 => k_is)
    (case l13 => k_is)
    (case c13 => k_is)
    (case k13 => k_is)
    (case a14 => k_is)
    (case l14 => k_is)
    (case c14 => k_is)
    (case k14 => k_is)
    (case a15 => k_is)
    (case l15 => k_is)
    (case c15 => k_is)
    (case k15 => k_is)
    (case a16 => k_is)
    (case l16 => k_is)
    (case c16 => k_is)
    (case k16 => k_is)
    (case z1 => k_is)
    (case z2 => k_is)
    (case z3 => k_is)
    (case z4 => k_is)
    (case z5 => k_is)
    (case z6 => k_is)
    (case z7 => k_is)
    (case z8 => k_is)
    (case z9 => k_is)
    (case uqc => rfl)
    (case uhc => kernel_rfl)
    (case un4 => decide)
    (case g_CONTRARY => k_is)
    (case D_CONTRARY => exact K64.kdict_mk (by with_unfolding_all rfl) ⟨rfl, rfl, rfl⟩ rfl (.cons ⟨rfl, rfl, ⟨_, rfl⟩⟩ (.cons ⟨rfl, rfl, ⟨_, rfl⟩⟩ (.cons ⟨rfl, rfl, ⟨_, rfl⟩⟩ (.cons ⟨rfl, rfl, ⟨_, rfl⟩⟩ (.cons ⟨rfl, rfl, ⟨_, rfl⟩⟩ (.cons ⟨rfl, rfl, ⟨_, rfl⟩⟩ .nil)))))) (by decide))
