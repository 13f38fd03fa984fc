import PyProof.Rows.All
import Wide.All
import OpenK.AllK
import Wide.FinOn
import Lean
import PyProof.EqAt
import PyProof.EqKinds
import PyProof.TupleCall
import PyProof.SetRoads
import PyProof.SetNew
import KE.KDictSum
import PyProof.Rows.SortStr
import PyProof.Rows.SortWalk
import PyProof.SumAny
import PyProof.NeKinds
import PySem.Challenge.RW_tacticwright_k04_nodes_and_free
section
-- CHANGE: your row's module here, as the last of these rows
set_option Elab.async false
set_option linter.all false
set_option maxRecDepth 100000
/-! THE HAND LAYER, for ints, bools, texts, own classes, LISTS and tuples (index, slices, in, append, pop ..), calls, loops. Paste it whole ahead of your own text; what your proof does not reach may be deleted. -/
namespace L2
open PySem PySem.Spec PyProof.Rows

/-- a key: an int or a str -/
abbrev Key := Sum Int Str
def keyIs : Key → Value → Bool
  | .inl k, v => Value.isInt k v
  | .inr x, v => Value.isStrOf x v
def keyH (w : World) : Key → Int
  | .inl k => hashInt k
  | .inr x => hashStr w x
theorem keyIs_shape : ∀ {k : Key} {v : Value}, keyIs k v = true → (∃ i t, k = Sum.inl i ∧ v = Value.int i t) ∨ (∃ x t, k = Sum.inr x ∧ v = Value.str x t)
  | .inl i, v, h => by
    obtain ⟨t, e⟩ := Value.isInt_shape (k := i) (v := v) h
    exact .inl ⟨i, t, rfl, e⟩
  | .inr x, v, h => by
    obtain ⟨t, e⟩ := Value.isStrOf_shape (x := x) (v := v) h
    exact .inr ⟨x, t, rfl, e⟩
theorem keyIs_int (i : Int) (t : Tok) : keyIs (.inl i) (.int i t) = true := by simp [keyIs, Value.isInt]
theorem keyIs_str (x : Str) (t : Tok) : keyIs (.inr x) (.str x t) = true := by simp [keyIs, Value.isStrOf]
theorem key_ll (a b : Int) : decide ((Sum.inl a : Key) = Sum.inl b) = (a == b) := by
  by_cases e : a = b
  · subst e; simp
  · have h : ¬ (Sum.inl a : Key) = Sum.inl b := fun q => e (Sum.inl.inj q)
    rw [decide_eq_false h]
    exact (beq_eq_false_iff_ne.mpr e).symm
theorem key_rr (a b : Str) : decide ((Sum.inr a : Key) = Sum.inr b) = decide (a = b) := by
  by_cases e : a = b
  · subst e; simp
  · have h : ¬ (Sum.inr a : Key) = Sum.inr b := fun q => e (Sum.inr.inj q)
    rw [decide_eq_false h, decide_eq_false e]
theorem key_lr (a : Int) (b : Str) : decide ((Sum.inl a : Key) = Sum.inr b) = false := decide_eq_false (fun q => nomatch q)
theorem key_rl (a : Str) (b : Int) : decide ((Sum.inr a : Key) = Sum.inl b) = false := decide_eq_false (fun q => nomatch q)

def mixKind (prog : Program) (w : World) : PySem.KeyKind prog w Key where
  is := keyIs
  hash := keyH w
  inj := fun v a b ha hb => by
    rcases keyIs_shape ha with ⟨i, t, rfl, rfl⟩ | ⟨x, t, rfl, rfl⟩
    · rcases keyIs_shape hb with ⟨j, u, rfl, e⟩ | ⟨y, u, rfl, e⟩
      · injection e with e1 _; rw [e1]
      · exact nomatch e
    · rcases keyIs_shape hb with ⟨j, u, rfl, e⟩ | ⟨y, u, rfl, e⟩
      · exact nomatch e
      · injection e with e1 _; rw [e1]
  byValue := fun k v h => by
    rcases keyIs_shape h with ⟨i, t, rfl, rfl⟩ | ⟨x, t, rfl, rfl⟩ <;> rfl
  pyHash := fun hv h => by
    rcases keyIs_shape hv with ⟨i, t, rfl, rfl⟩ | ⟨x, t, rfl, rfl⟩
    · exact wpAny_pyHash_int h
    · exact wpAny_pyHash_str h
  eqBool := fun hu hv h => by
    rcases keyIs_shape hu with ⟨i, t, rfl, rfl⟩ | ⟨x, t, rfl, rfl⟩
    · rcases keyIs_shape hv with ⟨j, u, rfl, rfl⟩ | ⟨y, u, rfl, rfl⟩
      · rw [key_ll] at h; exact wpAny_eqBool_int h
      · rw [key_lr] at h; exact SeqAt.EqAt.int_str i t y u _ _ _ _ h
    · rcases keyIs_shape hv with ⟨j, u, rfl, rfl⟩ | ⟨y, u, rfl, rfl⟩
      · rw [key_rl] at h; exact SeqAt.EqAt.str_int x t j u _ _ _ _ h
      · rw [key_rr] at h; exact wpAny_eqBool_str h
  «strs» := fun k x t v h => by
    rcases keyIs_shape h with ⟨i, u, rfl, e⟩ | ⟨y, u, rfl, e⟩
    · exact nomatch e
    · injection e with e1 _
      subst e1
      cases v <;> rfl

theorem mixKind_is (prog : Program) (w : World) (k : Key) (v : Value) : (mixKind prog w).is k v = keyIs k v := rfl
theorem mixKind_int (prog : Program) (w : World) (i : Int) (t : Tok) : (mixKind prog w).is (.inl i) (.int i t) = true := keyIs_int i t
theorem mixKind_str (prog : Program) (w : World) (x : Str) (t : Tok) : (mixKind prog w).is (.inr x) (.str x t) = true := keyIs_str x t
end L2

namespace L2
open PySem PySem.Spec PyProof.Rows

/-- a value, without the heap -/
inductive V where
  | non | bl (b : Bool) | int (i : Int) | str (x : Str) | byt (b : Array UInt8) | flt (b : UInt64) | ref (a : Addr) | ty (n : String)
  deriving DecidableEq

def RelV : V → Value → Prop
  | .non, u => u = Value.none
  | .bl b, u => u = Value.bool b
  | .int i, u => ∃ t, u = Value.int i t
  | .str x, u => ∃ t, u = Value.str x t
  | .byt b, u => ∃ t, u = Value.bytes b t
  | .flt b, u => ∃ t, u = Value.float b t
  | .ref a, u => u = Value.ref a
  | .ty n, u => u = Value.type n

abbrev Vals : List V → List Value → Prop := Paired RelV
theorem Vals.length {xs : List V} {us : List Value} (r : Vals xs us) : xs.length = us.length := Paired.length r
theorem Vals.get : ∀ {xs : List V} {us : List Value} {i : Nat} {x : V}, Vals xs us → xs[i]? = some x → ∃ u, us[i]? = some u ∧ RelV x u
  | _, _, _, _, .nil, e => by simp at e
  | _, _, 0, _, .cons r _, e => by simp at e; subst e; exact ⟨_, rfl, r⟩
  | _, _, i + 1, x, .cons _ t, e => by
    obtain ⟨u, h1, h2⟩ := Vals.get (i := i) (x := x) t (by simpa using e)
    exact ⟨u, by simpa using h1, h2⟩
theorem Vals.set {x : V} {u : Value} (r : RelV x u) : ∀ {xs : List V} {us : List Value} (i : Nat), Vals xs us → Vals (xs.set i x) (us.set i u)
  | _, _, _, .nil => .nil
  | _, _, 0, .cons _ t => .cons r t
  | _, _, i + 1, .cons q t => .cons q (Vals.set r i t)
theorem Vals.append : ∀ {xs ys : List V} {us ws : List Value}, Vals xs us → Vals ys ws → Vals (xs ++ ys) (us ++ ws)
  | _, _, _, _, .nil, s => s
  | _, _, _, _, .cons r t, s => .cons r (Vals.append t s)
theorem Vals.take : ∀ {xs : List V} {us : List Value} (n : Nat), Vals xs us → Vals (xs.take n) (us.take n)
  | _, _, 0, _ => .nil
  | _, _, _ + 1, .nil => .nil
  | _, _, n + 1, .cons r t => .cons r (Vals.take n t)
theorem Vals.drop : ∀ {xs : List V} {us : List Value} (n : Nat), Vals xs us → Vals (xs.drop n) (us.drop n)
  | _, _, 0, r => r
  | _, _, _ + 1, .nil => .nil
  | _, _, n + 1, .cons _ t => Vals.drop n t
theorem Vals.none_of : ∀ {xs : List V} {us : List Value} {i : Nat}, Vals xs us → xs[i]? = none → us[i]? = none := fun {xs us i} r e => by
  have h1 := r.length
  have h2 : xs.length ≤ i := List.getElem?_eq_none_iff.mp e
  exact List.getElem?_eq_none_iff.mpr (by omega)

def RelO : Option V → Option Value → Prop
  | some v, some u => RelV v u
  | none, none => True
  | _, _ => False
def KV {κ : Type} : List (κ × V) → List (κ × Value) → Prop := Paired fun (p : κ × V) (q : κ × Value) => p.1 = q.1 ∧ RelV p.2 q.2

/-- a key of a dict (00_mix): an int or a text -/
def kV : Key → V
  | .inl i => .int i
  | .inr x => .str x

/-- what stands at a tracked address -/
inductive HO where
  /-- a list -/
  | lst (xs : List V)
  /-- a tuple (never changes) -/
  | tup (xs : List V)
  /-- a dict whose keys are ints and texts; one whose keys are tuples of ints and texts (the empty one is both) -/
  | dK (kvs : List (Key × V)) | dT (kvs : List (List Key × V))
  /-- a set of ints: its members, its size -/
  | set (S : Int → Bool) (n : Nat)
  /-- an instance of the class at C, its dict at dx, its attributes -/
  | ins (C dx : Addr) (fs : List (Str × V))
  /-- the dict of the instance at x -/
  | own (x : Addr)
  /-- the dict of an exception -/
  | xd (fs : List (Str × V))
  /-- a bound method, f of x -/
  | met (f x : Addr)
  /-- a range object lo, lo + 1, .. below hi -/
  | rng (lo hi : Int)
  /-- a thing that is known to the object (the script; a dict while a loop walks it): read, never written while it is so -/
  | frz (o : Obj) (u : HO)
  /-- a code object's table -/
  | tbl (ps : Array Value)
  /-- any other thing, by what is true of its one object (a def of one's own: SetO a S n := HO.ext fun h => ..) -/
  | ext (φ : Heap → Prop)

abbrev Hp := Addr → Option HO
def upd (H : Hp) (a : Addr) (o : HO) : Hp := fun b => if b = a then some o else H b
theorem upd_same {H : Hp} {a : Addr} {o : HO} : upd H a o a = some o := by unfold upd; rw [if_pos rfl]
theorem upd_ne {H : Hp} {a b : Addr} {o : HO} (h : b ≠ a) : upd H a o b = H b := by unfold upd; rw [if_neg h]
theorem upd_upd {H : Hp} {a : Addr} {o u : HO} : upd (upd H a o) a u = upd H a u := by
  funext b; unfold upd; split <;> rfl
/-- two objects of different content stand apart -/
theorem ne_of {H : Hp} {a b : Addr} {o u : HO} (h : H a = some o) (h' : H b = some u) (d : o ≠ u) : a ≠ b := by
  intro e; subst e; rw [h] at h'; exact d (Option.some.inj h')
theorem ne_of_none {H : Hp} {a b : Addr} {o : HO} (h : H a = some o) (h' : H b = none) : a ≠ b := by
  intro e; subst e; rw [h] at h'; cases h'

section
variable (P : Program) (w : World)
def ObjOk (H : Hp) (h : Heap) (a : Addr) : HO → Prop
  | .lst xs => xs.length ≤ sizeLine ∧ ∃ (its : List Value) (n : Nat), Vals xs its ∧ h.get? a = some { cls := .type "list", data := .seq its.toArray n }
  | .tup xs => xs.length ≤ sizeLine ∧ ∃ its : List Value, Vals xs its ∧ IsTup h a its.toArray
  | .dK kvs => kvs.length ≤ sizeLine ∧ (a == sysModules) = false ∧ ∃ vs, KV kvs vs ∧ h.DictOf (mixKind P w) a vs
  | .dT kvs => kvs.length ≤ sizeLine ∧ (a == sysModules) = false ∧ ∃ xs : List (List Key × Addr × Value),
      Paired (fun (p : List Key × V) (q : List Key × Addr × Value) => p.1 = q.1 ∧ H q.2.1 = some (.tup (p.1.map kV)) ∧ RelV p.2 q.2.2) kvs xs ∧
      ∃ o es ep, h.get? a = some o ∧ o.ExactDict ∧ o.data = .dict es ep ∧ es.toList = xs.map (entryOfKey (tupleKind (mixKind P w))) ∧ (xs.map (·.1)).Nodup
  | .set S n => h.SetOf (intKind P w) a S n
  | .ins C dx fs => H dx = some (.own a) ∧ fs.length ≤ 1000 ∧ dx ≠ a ∧ h.get? a = some (PySem.W.instObj C dx) ∧
      ∃ mA, h.Ns1 dx mA ∧ (∀ f, RelO (fs.lookup f) (mA f)) ∧ PySem.Within mA (fs.map (·.1))
  | .own _ => ∃ o, h.get? a = some o
  | .xd fs => ∃ mA, h.Ns1 a mA ∧ ∀ f, RelO (fs.lookup f) (mA f)
  | .rng lo hi => ∃ t u v, h.get? a = some { cls := .type "range", data := .fields #[.int lo t, .int hi u, .int 1 v] }
  | .frz o u => h.get? a = some o ∧ ObjOk H h a u
  | .tbl ps => h.get? a = some { cls := .none, data := .fields ps }
  | .met f x => h.get? a = some (PySem.W.methodObj (.ref f) (.ref x))
  | .ext φ => φ h ∧ (∃ o, h.get? a = some o) ∧ ∀ h1 h2 : Heap, φ h1 → (∀ o, h1.get? a = some o → h2.get? a = some o) → φ h2
/-- the abstract heap is held -/
def HOk (H : Hp) (h : Heap) : Prop := ∀ a o, H a = some o → ObjOk P w H h a o
end

section
variable {P : Program} {w : World} {H H' : Hp} {h h' : Heap} {a : Addr} {o : HO}
theorem ObjOk.lt (x : ObjOk P w H h a o) : a < h.objs.size := by
  cases o with
  | lst xs => obtain ⟨_, _, _, _, e⟩ := x; exact Heap.lt_size e
  | tup xs => obtain ⟨_, _, _, p⟩ := x; exact p.lt
  | dK kvs => obtain ⟨_, _, _, _, o, _, _, e, _⟩ := x; exact Heap.lt_size e
  | dT kvs => obtain ⟨_, _, _, _, o, _, _, e, _⟩ := x; exact Heap.lt_size e
  | set S n => obtain ⟨o, _, _, _, e, _⟩ := x; exact Heap.lt_size e
  | ins C dx fs => obtain ⟨_, _, _, e, _⟩ := x; exact Heap.lt_size e
  | own y => obtain ⟨_, e⟩ := x; exact Heap.lt_size e
  | xd fs => obtain ⟨_, ⟨_, _, _, e, _⟩, _⟩ := x; exact Heap.lt_size e
  | rng lo hi => obtain ⟨_, _, _, e⟩ := x; exact Heap.lt_size e
  | frz ob u => obtain ⟨e, _⟩ := x; exact Heap.lt_size e
  | tbl ps => exact Heap.lt_size (show h.get? a = some _ from x)
  | met f y => exact Heap.lt_size (show h.get? a = some _ from x)
  | ext φ => obtain ⟨_, ⟨_, e⟩, _⟩ := x; exact Heap.lt_size e
theorem Paired.mapP {α β : Type} {F G : α → β → Prop} : ∀ {l₁ : List α} {l₂ : List β}, Paired F l₁ l₂ → (∀ a b, F a b → G a b) → Paired G l₁ l₂
  | _, _, .nil, _ => .nil
  | _, _, .cons r t, f => .cons (f _ _ r) (Paired.mapP t f)
theorem Paired.imp' {α β : Type} {F G : α → β → Prop} (f : ∀ a b, F a b → G a b) {l₁ : List α} {l₂ : List β} (r : Paired F l₁ l₂) : Paired G l₁ l₂ := Paired.mapP r f
/-- what an object's description leans on: its own object, its own dict, the tuples -/
theorem ObjOk.stay (x : ObjOk P w H h a o) (k : ∀ b u, (b = a ∨ H b = some (.own a)) → h.get? b = some u → h'.get? b = some u)
    (ho : ∀ b, H b = some (.own a) → H' b = some (.own a)) (ht : ∀ b xs, H b = some (.tup xs) → H' b = some (.tup xs)) : ObjOk P w H' h' a o := by
  induction o with
  | lst xs => obtain ⟨z, its, n, r, e⟩ := x; exact ⟨z, its, n, r, k _ _ (.inl rfl) e⟩
  | tup xs => obtain ⟨z, its, r, ob, e, c⟩ := x; exact ⟨z, its, r, ob, k _ _ (.inl rfl) e, c⟩
  | dK kvs => obtain ⟨z, y, vs, r, ob, es, ep, e, c⟩ := x; exact ⟨z, y, vs, r, ob, es, ep, k _ _ (.inl rfl) e, c⟩
  | dT kvs =>
    obtain ⟨z, y, xs, r, ob, es, ep, e, c⟩ := x
    exact ⟨z, y, xs, Paired.mapP r fun p q z => ⟨z.1, ht _ _ z.2.1, z.2.2⟩, ob, es, ep, k _ _ (.inl rfl) e, c⟩
  | set S n => obtain ⟨ob, es, ep, t, e, c⟩ := x; exact ⟨ob, es, ep, t, k _ _ (.inl rfl) e, c⟩
  | ins C dx fs =>
    obtain ⟨d, z, ne, e, mA, ⟨od, es, ep, e2, c⟩, r⟩ := x
    exact ⟨ho _ d, z, ne, k _ _ (.inl rfl) e, mA, ⟨od, es, ep, k _ _ (.inr d) e2, c⟩, r⟩
  | own y => obtain ⟨ob, e⟩ := x; exact ⟨ob, k _ _ (.inl rfl) e⟩
  | xd fs => obtain ⟨mA, ⟨od, es, ep, e, c⟩, r⟩ := x; exact ⟨mA, ⟨od, es, ep, k _ _ (.inl rfl) e, c⟩, r⟩
  | rng lo hi => obtain ⟨t, u, v, e⟩ := x; exact ⟨t, u, v, k _ _ (.inl rfl) e⟩
  | frz ob u ih => obtain ⟨e, q⟩ := x; exact ⟨k _ _ (.inl rfl) e, ih q⟩
  | tbl ps =>
    have e : h.get? a = some { cls := .none, data := .fields ps } := x
    show h'.get? a = some { cls := .none, data := .fields ps }
    exact k a _ (.inl rfl) e
  | met f y =>
    have e : h.get? a = some (PySem.W.methodObj (.ref f) (.ref y)) := x
    show h'.get? a = some (PySem.W.methodObj (.ref f) (.ref y))
    exact k a _ (.inl rfl) e
  | ext φ => obtain ⟨p, ⟨o, e⟩, st⟩ := x; exact ⟨st _ _ p fun o q => k _ _ (.inl rfl) q, ⟨o, k _ _ (.inl rfl) e⟩, st⟩
theorem HOk.lt (x : HOk P w H h) (e : H a = some o) : a < h.objs.size := (x a o e).lt
theorem HOk.fresh (x : HOk P w H h) (e : h.objs.size ≤ a) : H a = none := by
  cases q : H a with
  | none => rfl
  | some u => exact absurd (Nat.lt_of_lt_of_le (x.lt q) e) (Nat.lt_irrefl _)
/-- every object of the heap is kept -/
theorem HOk.kept (x : HOk P w H h) (k : ∀ b u, h.get? b = some u → h'.get? b = some u) : HOk P w H h' := fun a o e =>
  (x a o e).stay (fun b u _ q => k b u q) (fun _ q => q) fun _ _ q => q
/-- a new object is laid and tracked -/
theorem HOk.laid (x : HOk P w H h) (k : ∀ b u, h.get? b = some u → h'.get? b = some u) (hp : h.objs.size ≤ a) (new : ObjOk P w (upd H a o) h' a o) : HOk P w (upd H a o) h' := fun b u e => by
  have hn := x.fresh hp
  by_cases hb : b = a
  · subst hb; rw [upd_same] at e; cases e; exact new
  · rw [upd_ne hb] at e
    exact (x b u e).stay (fun c v _ q => k c v q) (fun c q => by rw [upd_ne (ne_of_none q hn)]; exact q) fun c xs q => by rw [upd_ne (ne_of_none q hn)]; exact q
end

/-- what may be read as u: it is u, or a known u -/
def Rd (H : Hp) (a : Addr) (u : HO) : Prop := H a = some u ∨ ∃ o, H a = some (.frz o u)
theorem Rd.of {H : Hp} {a : Addr} {u : HO} (h : H a = some u) : Rd H a u := .inl h
theorem Rd.ok {P : Program} {w : World} {H : Hp} {h : Heap} {a : Addr} {u : HO} (r : Rd H a u) (x : HOk P w H h) : ObjOk P w H h a u := by
  rcases r with r | ⟨o, r⟩
  · exact x a u r
  · obtain ⟨_, q⟩ := x a _ r
    exact q
/-- what may be written -/
def Mut : Option HO → Prop
  | some (.lst _) => True
  | some (.dK _) => True
  | some (.dT _) => True
  | some (.set _ _) => True
  | some (.ins _ _ _) => True
  | some (.ext _) => True
  | _ => False
section
variable {P : Program} {w : World} {H : Hp} {h h' : Heap} {x e : Addr} {o' : HO}
/-- the object at e is changed: x itself, or the dict of the instance x -/
theorem HOk.write (ok : HOk P w H h) (mu : Mut (H x)) (he : e = x ∨ H e = some (.own x)) (k : ∀ b u, b ≠ e → h.get? b = some u → h'.get? b = some u) (heo : ∃ u, h'.get? e = some u)
    (new : ObjOk P w (upd H x o') h' x o') : HOk P w (upd H x o') h' := fun b u q => by
  have nown : ∀ c y, H c = some (.own y) → c ≠ x := fun c y r z => by subst z; rw [r] at mu; exact mu
  have ntup : ∀ c xs, H c = some (.tup xs) → c ≠ x := fun c xs r z => by subst z; rw [r] at mu; exact mu
  by_cases hb : b = x
  · subst hb; rw [upd_same] at q; cases q; exact new
  · rw [upd_ne hb] at q
    by_cases hbe : b = e
    · have q' : H b = some (.own x) := by
        rcases he with z | z
        · exact absurd (hbe.trans z) hb
        · rw [hbe]; exact z
      rw [q] at q'; cases q'
      obtain ⟨v, hv⟩ := heo
      exact ⟨v, by rw [hbe]; exact hv⟩
    · refine (ok b u q).stay (fun c v hc r => k c v ?_ r) (fun c r => by rw [upd_ne (nown c b r)]; exact r) fun c xs r => by rw [upd_ne (ntup c xs r)]; exact r
      rcases hc with rfl | hc
      · exact hbe
      · rintro rfl
        rcases he with z | z
        · exact nown c b hc z
        · rw [hc] at z; cases z; exact hb rfl
end

/-! ### kept unless tracked; of the frames at fs (the callers') the slots may change (an exception that passes writes there); of the records at ex (iterators) nothing is said -/
structure Un (fs ex : List Addr) (H H' : Hp) (h h' : Heap) : Prop where
  keep : ∀ b o, h.get? b = some o → H b = none → b ∉ fs → b ∉ ex → h'.get? b = some o
  slot : ∀ b o, h.get? b = some o → H b = none → b ∈ fs → b ∉ ex → ∃ sl, h'.get? b = some { o with slots := sl }
  free : ∀ b o, h.get? b = some o → H b = none → b ∉ ex → H' b = none
  there : ∀ b o, h.get? b = some o → b ∉ ex → ∃ o', h'.get? b = some o'
  tups : ∀ b xs, H b = some (.tup xs) → H' b = some (.tup xs)
  frzs : ∀ b o u, H b = some (.frz o u) → H' b = some (.frz o u)
  tbls : ∀ b ps, H b = some (.tbl ps) → ∃ more, H' b = some (.tbl (ps ++ more))
section
variable {fs fs' ex ex' : List Addr} {H H1 H2 : Hp} {h h1 h2 h' : Heap} {a x e : Addr} {o : HO}
theorem Un.any (u : Un fs ex H H1 h h1) {b : Addr} {ob : Obj} (q : h.get? b = some ob) (n : H b = none) (hx : b ∉ ex) : ∃ sl, h1.get? b = some { ob with slots := sl } := by
  by_cases hb : b ∈ fs
  · exact u.slot b ob q n hb hx
  · exact ⟨ob.slots, u.keep b ob q n hb hx⟩
theorem Un.trans (a : Un fs ex H H1 h h1) (b : Un fs ex H1 H2 h1 h2) : Un fs ex H H2 h h2 where
  keep := fun c ob q n hc hx => b.keep c ob (a.keep c ob q n hc hx) (a.free c ob q n hx) hc hx
  slot := fun c ob q n hc hx => by
    obtain ⟨sl, e1⟩ := a.slot c ob q n hc hx
    obtain ⟨sl', e2⟩ := b.slot c _ e1 (a.free c ob q n hx) hc hx
    exact ⟨sl', e2⟩
  free := fun c ob q n hx => by
    obtain ⟨o', e1⟩ := a.there c ob q hx
    exact b.free c o' e1 (a.free c ob q n hx) hx
  there := fun c ob q hx => by
    obtain ⟨o', e1⟩ := a.there c ob q hx
    exact b.there c o' e1 hx
  tups := fun c xs q => b.tups c xs (a.tups c xs q)
  frzs := fun c ob xs q => b.frzs c ob xs (a.frzs c ob xs q)
  tbls := fun c ps q => by
    obtain ⟨m1, e1⟩ := a.tbls c ps q
    obtain ⟨m2, e2⟩ := b.tbls c _ e1
    exact ⟨m1 ++ m2, by rw [e2, Array.append_assoc]⟩
theorem Un.kept (k : ∀ b u, h.get? b = some u → h'.get? b = some u) : Un fs ex H H h h' :=
  ⟨fun b ob q _ _ _ => k b ob q, fun b ob q _ _ _ => ⟨ob.slots, k b ob q⟩, fun _ _ _ n _ => n, fun b ob q _ => ⟨ob, k b ob q⟩, fun _ _ q => q, fun _ _ _ q => q, fun _ ps q => ⟨#[], by rw [q]; simp⟩⟩
theorem Un.refl : Un fs ex H H h h := Un.kept fun _ _ q => q
theorem Un.laid (k : ∀ b u, h.get? b = some u → h'.get? b = some u) (hp : h.objs.size ≤ a) (hn : H a = none) : Un fs ex H (upd H a o) h h' where
  keep := fun b u q _ _ _ => k b u q
  slot := fun b u q _ _ _ => ⟨u.slots, k b u q⟩
  free := fun b u q n _ => by rw [upd_ne (Nat.ne_of_lt (Nat.lt_of_lt_of_le (Heap.lt_size q) hp))]; exact n
  there := fun b u q _ => ⟨u, k b u q⟩
  tups := fun b xs q => by rw [upd_ne (ne_of_none q hn)]; exact q
  frzs := fun b u xs q => by rw [upd_ne (ne_of_none q hn)]; exact q
  tbls := fun b ps q => ⟨#[], by rw [upd_ne (ne_of_none q hn), q]; simp⟩
theorem Un.write (mu : Mut (H x)) (he : e = x ∨ H e = some (.own x)) (k : ∀ b u, b ≠ e → h.get? b = some u → h'.get? b = some u) (heo : ∃ u, h'.get? e = some u) : Un fs ex H (upd H x o) h h' := by
  have hx : ∀ b, H b = none → b ≠ x := fun b n z => by subst z; rw [n] at mu; exact mu
  have hb : ∀ b, H b = none → b ≠ e := fun b n z => by
    subst z
    rcases he with r | r
    · exact hx b n r
    · rw [n] at r; cases r
  have hm : ∀ b u, H b = some u → ¬ Mut (some u) → b ≠ x := fun b u q nm z => by subst z; rw [q] at mu; exact nm mu
  refine ⟨fun b u q n _ _ => k b u (hb b n) q, fun b u q n _ _ => ⟨u.slots, k b u (hb b n) q⟩, fun b u q n _ => by rw [upd_ne (hx b n)]; exact n, fun b u q _ => ?_,
    fun b xs q => by rw [upd_ne (hm b _ q fun z => z)]; exact q, fun b u xs q => by rw [upd_ne (hm b _ q fun z => z)]; exact q, fun b ps q => ⟨#[], by rw [upd_ne (hm b _ q fun z => z), q]; simp⟩⟩
  by_cases hbe : b = e
  · subst hbe; exact heo
  · exact ⟨u, k b u hbe q⟩
theorem Un.mono (u : Un fs ex H H1 h h1) (hs : ∀ b ∈ fs, b ∈ fs') (hx : ∀ b ∈ ex, b ∈ ex') : Un fs' ex' H H1 h h1 :=
  ⟨fun b ob q n hb he => u.keep b ob q n (fun z => hb (hs b z)) fun z => he (hx b z), fun _ _ q n _ he => u.any q n fun z => he (hx _ z), fun b ob q n he => u.free b ob q n fun z => he (hx b z), fun b ob q he => u.there b ob q fun z => he (hx b z), u.tups, u.frzs, u.tbls⟩
end

/-! ### the heap without what is tracked -/
def trk (h : Heap) (H : Hp) : List Addr := (List.range h.objs.size).filter fun a => (H a).isSome
def hidT (h : Heap) (H : Hp) : Heap := PySem.W.hideAll h (trk h H)
theorem hidT_size (h : Heap) (H : Hp) : (hidT h H).objs.size = h.objs.size := PySem.W.hideAll_size _ _
theorem hidT_get {h : Heap} {H : Hp} {b : Addr} {o : Obj} (e : h.get? b = some o) (n : H b = none) : (hidT h H).get? b = some o :=
  PySem.W.hideAll_get _ e fun hm => by
    have q : (H b).isSome = true := (List.mem_filter.mp hm).2
    rw [n] at q; simp at q
theorem of_hidT {h : Heap} {H : Hp} {b : Addr} {o : Obj} (e : (hidT h H).get? b = some o) : h.get? b = some o ∧ H b = none := by
  have e' : h.get? b = some o := PySem.W.of_hideAll (trk h H) e
  refine ⟨e', ?_⟩
  cases q : H b with
  | none => rfl
  | some x =>
    have hm : b ∈ trk h H := List.mem_filter.mpr ⟨List.mem_range.mpr (Heap.lt_size e'), by simp [q]⟩
    have z : (hidT h H).get? b = none := PySem.W.hideAll_none (trk h H) hm
    rw [z] at e; cases e

/-! ### OpenK's ledger, filled with every new object but one -/
def allNews (g h : Heap) (L : Addr) : List (Addr × Obj) := (List.range h.objs.size).filterMap fun a => if a = L ∨ (g.get? a).isSome = true then none else (h.get? a).map fun o => (a, o)
theorem mem_allNews {g h : Heap} {L a : Addr} {o : Obj} (h1 : a ≠ L) (h2 : g.get? a = none) (h3 : h.get? a = some o) : (a, o) ∈ allNews g h L :=
  List.mem_filterMap.mpr ⟨a, List.mem_range.mpr (Heap.lt_size h3), by simp [h1, h2, h3]⟩
theorem of_mem_allNews {g h : Heap} {L : Addr} {p : Addr × Obj} (hp : p ∈ allNews g h L) : p.1 ≠ L ∧ g.get? p.1 = none ∧ h.get? p.1 = some p.2 := by
  obtain ⟨b, _, e⟩ := List.mem_filterMap.mp hp
  split at e
  · cases e
  · rename_i hn
    cases q : h.get? b with
    | none => rw [q] at e; simp at e
    | some u =>
      rw [q] at e
      simp only [Option.map_some, Option.some.injEq] at e
      subst e
      refine ⟨fun z => hn (.inl z), ?_, q⟩
      show g.get? b = none
      cases r : g.get? b with
      | none => rfl
      | some v => exact (hn (.inr (by simp [r]))).elim
def rest (g h : Heap) (L d : Addr) : List (Addr × Obj) := (allNews g h L).filter fun p => decide (p.1 ≠ d)
theorem rest_ne {g h : Heap} {L d : Addr} : ∀ p ∈ rest g h L d, p.1 ≠ d := fun p hp => of_decide_eq_true (List.mem_filter.mp hp).2
theorem mem_rest {g h : Heap} {L d a : Addr} {o : Obj} (h1 : a ≠ L) (h2 : g.get? a = none) (h3 : h.get? a = some o) (h4 : a ≠ d) : (a, o) ∈ rest g h L d :=
  List.mem_filter.mpr ⟨mem_allNews h1 h2 h3, decide_eq_true h4⟩
theorem news_all {g h : Heap} {L : Addr} : News g L h (allNews g h L) := fun p hp => let ⟨a, b, c⟩ := of_mem_allNews hp; ⟨c, a, b⟩
theorem news_at {g h : Heap} {L d : Addr} {o : Obj} (h1 : d ≠ L) (h2 : g.get? d = none) (h3 : h.get? d = some o) : News g L h ((d, o) :: rest g h L d) := fun p hp => by
  rcases List.mem_cons.mp hp with rfl | hp
  · exact ⟨h3, h1, h2⟩
  · exact news_all p (List.mem_filter.mp hp).1
/-- behind a rule that changed d alone: all else but the frame is kept -/
theorem kept_of_news {g h h' : Heap} {L d : Addr} {m : Str → Option Value} (k : ∀ b o, g.get? b = some o → h.get? b = some o) (F : Fr g L h' m) (N : News g L h' (rest g h L d)) :
    ∀ b o, b ≠ L → b ≠ d → h.get? b = some o → h'.get? b = some o := fun b o h1 h2 e => by
  cases q : g.get? b with
  | some u =>
    have := k b u q
    rw [e] at this; cases this
    exact F.keep b _ q
  | none => exact (N (b, o) (mem_rest h1 q e h2)).1
end L2

namespace L2
open PySem PySem.Spec PyProof.Rows

/-- the module's facts, over the base: the heap at the law's entry without what is tracked there -/
structure Mod (K : PySem.W.Frag) (mg : Str → Option Value) (base : Heap) : Prop where
  kin : K.In base
  glob : base.Ns mainGlobals mg
  blt : ∃ mb, base.Ns builtinsNs mb ∧ ∀ x : Str, x ≠ "__name__" → mb x = bootBuiltins x
  nolimit : base.NoLimit

/-- the context: a def's body (or a comprehension's block) running. base: fixed through the whole law; s₀, H₀: the entry; outer: the frames whose slots others may change (a def's callers); stack: all frames that run;
   ex: iterators that were made ahead of the entry and are walked here (a comprehension's); fn: the names whose cells were made at the entry (a def: all; a comprehension's block: its own); calm: not within an except suite; pn: pins that every state bears; xe: what is wanted of an exception that leaves the code -/
structure Cx where
  prog : Program
  w : World
  K : PySem.W.Frag
  mg : Str → Option Value
  base : Heap
  A : Around
  N : List Str
  s₀ : Shared
  H₀ : Hp
  env : Env
  outer : List Env
  stack : List Env
  ex : List Addr
  fn : Str → Bool
  calm : Bool
  pn : List (Addr × Obj)
  xe : Value → Shared → Prop
/-- the callers' frames -/
def frs (l : List Env) : List Addr := l.filterMap (·.frame)
abbrev Cx.fs (X : Cx) : List Addr := frs X.outer

def Vis (sc : Scope) (x : Str) : Prop := sc.names.lookup x = some .local ∨ sc.names.lookup x = some .cell ∨ sc.names.lookup x = some .free
def Loc (sc : Scope) (x : Str) : Prop := sc.names.lookup x = some .local ∨ sc.names.lookup x = some .cell
def Look (env : Env) (h : Heap) (m : Str → Option Value) (x : Str) (u : Value) : Prop :=
  (env.kindOf x = some .local ∧ m x = some u) ∨ ((env.kindOf x = some .cell ∨ env.kindOf x = some .free) ∧ ∃ c, env.cells.lookup x = some c ∧ h.IsCell c (some u))

structure Cx.Ok (X : Cx) : Prop where
  mod : Mod X.K X.mg X.base
  kind : X.env.scope.kind = .function
  glob : X.env.globals = mainGlobals
  blt : X.env.builtins = builtinsNs
  above : X.s₀.heap.objs.size ≤ X.env.locals
  inj : ∀ x y c, X.env.cells.lookup x = some c → X.env.cells.lookup y = some c → x = y
  has : ∀ x, (X.env.kindOf x = some .cell ∨ X.env.kindOf x = some .free) → ∃ c, X.env.cells.lookup x = some c
  cab : ∀ x c, X.fn x = true → X.env.cells.lookup x = some c → X.s₀.heap.objs.size ≤ c
  hd : X.calm = true → X.A.handled = none
  frames : X.A.frames = some X.stack
  stk : X.stack = X.outer ∨ (X.stack = X.env :: X.outer ∧ X.env.frame = some X.env.locals)
  exf : ∀ b ∈ X.ex, b ≠ X.env.locals ∧ ∀ x c, X.env.cells.lookup x = some c → c ≠ b
  bs : ∀ b o, X.base.get? b = some o → X.s₀.heap.get? b = some o ∧ X.H₀ b = none
  bsz : X.base.objs.size ≤ X.s₀.heap.objs.size
  noex : ∀ b o, X.base.get? b = some o → b ∉ X.ex
  exfs : ∀ b ∈ X.ex, b ∉ X.fs
  funs : X.s₀.heap.FunFrames X.base X.outer
  frf : ∀ b ∈ X.fs, X.H₀ b = none

structure Inv (X : Cx) (pins : List (Addr × Obj)) (σ : List (Option V)) (H : Hp) (s : Shared) : Prop where
  ok : X.Ok
  os : s.os = X.s₀.os
  bare : AllBare s.gens
  base : Un X.fs X.ex X.H₀ H X.s₀.heap s.heap
  loc : ∃ m, s.heap.Ns X.env.locals m ∧ ∀ (i : Nat) (x : Str) (v : V), X.N[i]? = some x → σ[i]? = some (some v) → Vis X.env.scope x → ∃ u, RelV v u ∧ Look X.env s.heap m x u
  cell : ∀ x c, X.env.cells.lookup x = some c → ∃ v, s.heap.IsCell c v
  free : H X.env.locals = none
  freeC : ∀ x c, X.env.cells.lookup x = some c → H c = none
  pin : ∀ p ∈ X.pn ++ pins, s.heap.get? p.1 = some p.2 ∧ H p.1 = none ∧ p.1 ≠ X.env.locals ∧ p.1 ∉ X.fs ∧ ∀ v, p.2.data ≠ .cell v
  hok : HOk X.prog X.w H s.heap
  len : σ.length = X.N.length

section
variable {X : Cx} {pins : List (Addr × Obj)} {σ : List (Option V)} {H H' : Hp} {s : Shared} {h' : Heap}

theorem Cx.Ok.nofr (ok : X.Ok) {b : Addr} {o : Obj} (e : X.base.get? b = some o) : b ∉ X.fs := fun hb => by
  have := (ok.funs.mem hb).1
  rw [e] at this; cases this
theorem Inv.bs (I : Inv X pins σ H s) : ∀ b o, X.base.get? b = some o → s.heap.get? b = some o ∧ H b = none := fun b o e =>
  ⟨I.base.keep b o (I.ok.bs b o e).1 (I.ok.bs b o e).2 (I.ok.nofr e) (I.ok.noex b o e), I.base.free b o (I.ok.bs b o e).1 (I.ok.bs b o e).2 (I.ok.noex b o e)⟩
theorem Inv.bk (I : Inv X pins σ H s) : ∀ b o, X.base.get? b = some o → s.heap.get? b = some o := fun b o e => (I.bs b o e).1
theorem Inv.mod (I : Inv X pins σ H s) : Mod X.K X.mg X.base := I.ok.mod
theorem Inv.kIn (I : Inv X pins σ H s) : X.K.In s.heap := I.ok.mod.kin.keeps I.bk
theorem Inv.nolimit (I : Inv X pins σ H s) : s.heap.NoLimit := I.ok.mod.nolimit.keeps I.bk
/-- the frame over the base: for OpenK's rules (K.In X.base is I.mod.kin) -/
theorem Inv.fr (I : Inv X pins σ H s) : ∃ m, Fr X.base X.env.locals s.heap m :=
  let ⟨m, hn, _⟩ := I.loc
  ⟨m, hn, I.bk, Nat.le_trans I.ok.bsz I.ok.above⟩
theorem Inv.lt (I : Inv X pins σ H s) : X.env.locals < s.heap.objs.size := let ⟨_, hn, _⟩ := I.loc; hn.lt
theorem Inv.sz (I : Inv X pins σ H s) : X.s₀.heap.objs.size ≤ s.heap.objs.size := Nat.le_trans I.ok.above (Nat.le_of_lt I.lt)
theorem Inv.nofs (I : Inv X pins σ H s) {a : Addr} (h : s.heap.objs.size ≤ a) : a ∉ X.fs := fun hb => by
  obtain ⟨_, o, ho, _⟩ := I.ok.funs.mem hb
  exact absurd (Nat.lt_of_lt_of_le (Heap.lt_size ho) (Nat.le_trans I.sz h)) (Nat.lt_irrefl _)
theorem Inv.cne (I : Inv X pins σ H s) : ∀ x c, X.env.cells.lookup x = some c → c ≠ X.env.locals := fun x c e z => by
  obtain ⟨v, o, ho, hd⟩ := I.cell x c e
  obtain ⟨m, ⟨o', es, ep, ho', hd', _⟩, _⟩ := I.loc
  rw [z, ho'] at ho; cases ho; rw [hd'] at hd; cases hd
theorem Inv.funs (I : Inv X pins σ H s) : s.heap.FunFrames X.base X.outer := by
  have all : ∀ (l : List Env), (∀ b ∈ frs l, b ∈ X.fs) → X.s₀.heap.FunFrames X.base l → s.heap.FunFrames X.base l := by
    intro l
    induction l with
    | nil => intro _ _; trivial
    | cons env r ih =>
      intro hs hl
      obtain ⟨hk, ⟨L, o, hf, hn, ho, hd⟩, hr⟩ := hl
      have hL : L ∈ X.fs := hs L (by unfold frs; rw [List.filterMap_cons, hf]; exact List.mem_cons_self)
      obtain ⟨sl, e⟩ := I.base.slot L o ho (I.ok.frf L hL) hL fun z => I.ok.exfs L z hL
      exact ⟨hk, ⟨L, _, hf, hn, e, hd⟩, ih (fun b hb => hs b (by unfold frs; rw [List.filterMap_cons, hf]; exact List.mem_cons_of_mem _ hb)) hr⟩
  exact all X.outer (fun _ hb => hb) I.ok.funs

/-- the frames that run, for a call -/
theorem Inv.stack (I : Inv X pins σ H s) : s.heap.FunFrames X.base X.stack := by
  rcases I.ok.stk with e | ⟨e, hf⟩
  · rw [e]; exact I.funs
  · rw [e]
    obtain ⟨m, hn, _⟩ := I.loc
    refine .cons (by rw [I.ok.kind]; decide) hf hn ?_ I.funs
    exact Heap.get?_none_of_le (Nat.le_trans I.ok.bsz I.ok.above)
theorem Inv.stkSub (I : Inv X pins σ H s) : ∀ b ∈ frs X.stack, b ∈ X.env.locals :: X.fs := fun b hb => by
  rcases I.ok.stk with e | ⟨e, hf⟩
  · rw [e] at hb; exact List.mem_cons_of_mem _ hb
  · rw [e] at hb
    unfold frs at hb
    rw [List.filterMap_cons, hf] at hb
    exact hb
theorem Inv.stkFree (I : Inv X pins σ H s) : ∀ b ∈ frs X.stack, H b = none := fun b hb => by
  rcases List.mem_cons.mp (I.stkSub b hb) with e | hb
  · rw [e]; exact I.free
  · obtain ⟨_, o, ho, _⟩ := I.ok.funs.mem hb
    exact I.base.free b o ho (I.ok.frf b hb) fun z => I.ok.exfs b z hb

/-- THE STEP: the untracked objects but the frame and the records at ch are kept (the callers' frames up to slots), the frame's map is kept, the new abstract heap is held -/
theorem Inv.step {g' : Array GenState} {t' : Nat} {d' : Drawn} {ch : List Addr} (I : Inv X pins σ H s)
    (hch : ∀ b ∈ ch, (b ∈ X.ex ∨ X.s₀.heap.objs.size ≤ b) ∧ b ≠ X.env.locals ∧ (∀ x c, X.env.cells.lookup x = some c → c ≠ b) ∧ ∀ p ∈ X.pn ++ pins, p.1 ≠ b)
    (keep : ∀ b o, b ≠ X.env.locals → b ∉ X.fs → b ∉ ch → s.heap.get? b = some o → H b = none → h'.get? b = some o)
    (slot : ∀ b o, b ≠ X.env.locals → b ∈ X.fs → b ∉ ch → s.heap.get? b = some o → H b = none → ∃ sl, h'.get? b = some { o with slots := sl }) (free : ∀ b o, b ∉ ch → s.heap.get? b = some o → H b = none → H' b = none)
    (there : ∀ b o, b ∉ ch → s.heap.get? b = some o → ∃ o', h'.get? b = some o')
    (tups : ∀ b xs, H b = some (.tup xs) → H' b = some (.tup xs)) (frzs : ∀ b o u, H b = some (.frz o u) → H' b = some (.frz o u)) (tbls : ∀ b ps, H b = some (.tbl ps) → ∃ more, H' b = some (.tbl (ps ++ more)))
    (ns : ∀ m, s.heap.Ns X.env.locals m → h'.Ns X.env.locals m) (hok : HOk X.prog X.w H' h') (hg : AllBare g') :
    Inv X pins σ H' { s with heap := h', gens := g', drawn := d', toks := t' } := by
  have neL : ∀ b o, X.s₀.heap.get? b = some o → b ≠ X.env.locals := fun b o e => Nat.ne_of_lt (Nat.lt_of_lt_of_le (Heap.lt_size e) I.ok.above)
  have neC : ∀ b o, X.s₀.heap.get? b = some o → b ∉ X.ex → b ∉ ch := fun b o e hx hb => by
    rcases (hch b hb).1 with z | z
    · exact hx z
    · exact absurd (Nat.lt_of_lt_of_le (Heap.lt_size e) z) (Nat.lt_irrefl _)
  have cellK : ∀ x c, X.env.cells.lookup x = some c → ∀ v, s.heap.IsCell c v → h'.IsCell c v := fun x c e v ⟨o, ho, hd⟩ => by
    have nch : c ∉ ch := fun z => (hch c z).2.2.1 x c e rfl
    by_cases hc : c ∈ X.fs
    · obtain ⟨sl, q⟩ := slot c o (I.cne x c e) hc nch ho (I.freeC x c e)
      exact ⟨_, q, hd⟩
    · exact ⟨o, keep c o (I.cne x c e) hc nch ho (I.freeC x c e), hd⟩
  refine ⟨I.ok, I.os, hg, ⟨fun b o e n hb hx => ?_, fun b o e n hb hx => ?_, fun b o e n hx => ?_, fun b o e hx => ?_, fun b xs e => tups b xs (I.base.tups b xs e), fun b o xs e => frzs b o xs (I.base.frzs b o xs e), fun b ps e => ?_⟩, ?_, fun x c e => ?_, ?_, fun x c e => ?_, fun p hp => ?_, hok, I.len⟩
  · exact keep b o (neL b o e) hb (neC b o e hx) (I.base.keep b o e n hb hx) (I.base.free b o e n hx)
  · obtain ⟨sl, e1⟩ := I.base.slot b o e n hb hx
    obtain ⟨sl', e2⟩ := slot b _ (neL b o e) hb (neC b o e hx) e1 (I.base.free b o e n hx)
    exact ⟨sl', e2⟩
  · obtain ⟨o', e1⟩ := I.base.there b o e hx
    exact free b o' (neC b o e hx) e1 (I.base.free b o e n hx)
  · obtain ⟨o', e1⟩ := I.base.there b o e hx
    exact there b o' (neC b o e hx) e1
  · obtain ⟨m1, e1⟩ := I.base.tbls b ps e
    obtain ⟨m2, e2⟩ := tbls b _ e1
    exact ⟨m1 ++ m2, by rw [e2, Array.append_assoc]⟩
  · obtain ⟨m, hn, hl⟩ := I.loc
    refine ⟨m, ns m hn, fun i x v e1 e2 e3 => ?_⟩
    obtain ⟨u, r, l⟩ := hl i x v e1 e2 e3
    refine ⟨u, r, ?_⟩
    rcases l with l | ⟨k, c, e, z⟩
    · exact .inl l
    · exact .inr ⟨k, c, e, cellK x c e _ z⟩
  · obtain ⟨v, z⟩ := I.cell x c e
    exact ⟨v, cellK x c e v z⟩
  · obtain ⟨m, ⟨o, _, _, ho, _⟩, _⟩ := I.loc
    exact free _ o (fun z => (hch _ z).2.1 rfl) ho I.free
  · obtain ⟨v, o, ho, hd⟩ := I.cell x c e
    exact free c o (fun z => (hch c z).2.2.1 x c e rfl) ho (I.freeC x c e)
  · obtain ⟨e, n, ne, nf, d⟩ := I.pin p hp
    have nch : p.1 ∉ ch := fun z => (hch p.1 z).2.2.2 p hp rfl
    exact ⟨keep p.1 p.2 ne nf nch e n, free p.1 p.2 nch e n, ne, nf, d⟩
/-- .. where the frame's own object is kept too -/
theorem Inv.un {t' : Nat} (I : Inv X pins σ H s) (u : Un X.fs [] H H' s.heap h') (hok : HOk X.prog X.w H' h') : Inv X pins σ H' { s with heap := h', toks := t' } := by
  obtain ⟨m, ⟨o, es, ep, ho, r⟩, _⟩ := id I.loc
  obtain ⟨sl, hL⟩ := u.any ho I.free (by simp)
  exact I.step (g' := s.gens) (d' := s.drawn) (ch := []) (fun _ z => nomatch z) (fun b o _ hb _ e n => u.keep b o e n hb (by simp)) (fun b o _ hb _ e n => u.slot b o e n hb (by simp)) (fun b o _ e n => u.free b o e n (by simp)) (fun b o _ e => u.there b o e (by simp)) u.tups u.frzs u.tbls (fun m' hm => by
    obtain ⟨o', es', ep', ho', r'⟩ := hm
    rw [ho] at ho'; cases ho'
    exact ⟨_, es', ep', hL, r'⟩) hok I.bare
/-- behind a call (or a comprehension's block): the slots of this frame may have changed too, the records at ch may have turned -/
theorem Inv.call {g' : Array GenState} {t' : Nat} {d' : Drawn} {ch : List Addr} (I : Inv X pins σ H s) (u : Un (frs X.stack) ch H H' s.heap h') (hok : HOk X.prog X.w H' h') (hg : AllBare g')
    (hch : ∀ b ∈ ch, (b ∈ X.ex ∨ X.s₀.heap.objs.size ≤ b) ∧ b ≠ X.env.locals ∧ (∀ x c, X.env.cells.lookup x = some c → c ≠ b) ∧ ∀ p ∈ X.pn ++ pins, p.1 ≠ b) :
    Inv X pins σ H' { s with heap := h', gens := g', drawn := d', toks := t' } := by
  obtain ⟨m, ⟨o, es, ep, ho, r⟩, _⟩ := id I.loc
  obtain ⟨sl, hL⟩ := u.any ho I.free fun z => (hch _ z).2.1 rfl
  exact I.step (ch := ch) hch (fun b o hL hb hc e n => u.keep b o e n (fun z => (List.mem_cons.mp (I.stkSub b z)).elim hL hb) hc) (fun b o _ _ hc e n => u.any e n hc) (fun b o hc e n => u.free b o e n hc) (fun b o hc e => u.there b o e hc) u.tups u.frzs u.tbls (fun m' hm => by
    obtain ⟨o', es', ep', ho', r'⟩ := hm
    rw [ho] at ho'; cases ho'
    exact ⟨_, es', ep', hL, r'⟩) hok hg
/-- an untracked record of ours (an iterator) has turned -/
theorem Inv.turned {t' : Nat} {it : Addr} (I : Inv X pins σ H s) (k : ∀ b o, b ≠ it → s.heap.get? b = some o → h'.get? b = some o) (hn : H it = none) (hL : it ≠ X.env.locals)
    (h1 : it ∈ X.ex ∨ X.s₀.heap.objs.size ≤ it) (h2 : ∀ x c, X.env.cells.lookup x = some c → c ≠ it) (h3 : ∀ p ∈ X.pn ++ pins, p.1 ≠ it) : Inv X pins σ H { s with heap := h', toks := t' } := by
  have nit : ∀ b u, H b = some u → b ≠ it := fun b u e z => by rw [z, hn] at e; cases e
  refine I.step (g' := s.gens) (d' := s.drawn) (ch := [it]) (fun b hb => ?_) (fun b o _ _ hc e _ => k b o (fun z => hc (by simp [z])) e) (fun b o _ _ hc e _ => ⟨o.slots, k b o (fun z => hc (by simp [z])) e⟩) (fun _ _ _ _ n => n)
    (fun b o hc e => ⟨o, k b o (fun z => hc (by simp [z])) e⟩) (fun _ _ e => e) (fun _ _ _ e => e) (fun b ps e => ⟨#[], by rw [e]; simp⟩) (fun m hm => ?_) (fun b u e => ?_) I.bare
  · have e : b = it := by simpa using hb
    subst e
    exact ⟨h1, hL, h2, h3⟩
  · obtain ⟨o, es, ep, ho, r⟩ := hm
    exact ⟨o, es, ep, k _ o (Ne.symm hL) ho, r⟩
  · refine (I.hok b u e).stay (fun c v hc q => k c v ?_ q) (fun _ q => q) fun _ _ q => q
    rcases hc with z | z
    · rw [z]; exact nit b u e
    · exact nit c _ z
theorem Inv.tok (I : Inv X pins σ H s) (t : Nat) : Inv X pins σ H { s with toks := t } := I.un (h' := s.heap) (t' := t) Un.refl I.hok
/-- all objects kept -/
theorem Inv.kept {t' : Nat} (I : Inv X pins σ H s) (k : ∀ b u, s.heap.get? b = some u → h'.get? b = some u) : Inv X pins σ H { s with heap := h', toks := t' } := I.un (Un.kept k) (I.hok.kept k)
/-- a new object laid and tracked -/
theorem Inv.laid {a : Addr} {o : HO} {t' : Nat} (I : Inv X pins σ H s) (k : ∀ b u, s.heap.get? b = some u → h'.get? b = some u) (hp : s.heap.objs.size ≤ a) (new : ObjOk X.prog X.w (upd H a o) h' a o) :
    Inv X pins σ (upd H a o) { s with heap := h', toks := t' } := I.un (Un.laid k hp (I.hok.fresh hp)) (I.hok.laid k hp new)
/-- an object written -/
theorem Inv.write {x e : Addr} {o : HO} {t' : Nat} (I : Inv X pins σ H s) (mu : Mut (H x)) (he : e = x ∨ H e = some (.own x)) (k : ∀ b u, b ≠ e → s.heap.get? b = some u → h'.get? b = some u) (heo : ∃ u, h'.get? e = some u)
    (new : ObjOk X.prog X.w (upd H x o) h' x o) : Inv X pins σ (upd H x o) { s with heap := h', toks := t' } := I.un (Un.write mu he k heo) (I.hok.write mu he k heo new)
/-- forgetting slots, pins -/
theorem Inv.weak {σ' : List (Option V)} (I : Inv X pins σ H s) (hl : σ'.length = σ.length) (w : ∀ (i : Nat) v, σ'[i]? = some (some v) → σ[i]? = some (some v)) : Inv X pins σ' H s :=
  ⟨I.ok, I.os, I.bare, I.base, let ⟨m, hn, hl'⟩ := I.loc; ⟨m, hn, fun i x v e1 e2 e3 => hl' i x v e1 (w i v e2) e3⟩, I.cell, I.free, I.freeC, I.pin, I.hok, hl.trans I.len⟩
theorem Inv.pins_of {pins' : List (Addr × Obj)} (I : Inv X pins σ H s) (h : ∀ p ∈ pins', s.heap.get? p.1 = some p.2 ∧ H p.1 = none ∧ p.1 ≠ X.env.locals ∧ p.1 ∉ X.fs ∧ ∀ v, p.2.data ≠ .cell v) : Inv X pins' σ H s :=
  ⟨I.ok, I.os, I.bare, I.base, I.loc, I.cell, I.free, I.freeC, fun p hp => (List.mem_append.mp hp).elim (fun z => I.pin p (List.mem_append_left _ z)) (h p), I.hok, I.len⟩

theorem nodup_ix {N : List Str} (hN : N.Nodup) {i j : Nat} {x : Str} (a : N[i]? = some x) (b : N[j]? = some x) : i = j := by
  obtain ⟨h1, e1⟩ := List.getElem?_eq_some_iff.mp a
  obtain ⟨h2, e2⟩ := List.getElem?_eq_some_iff.mp b
  exact (List.getElem_inj hN).mp (e1.trans e2.symm)

/-- a name is stored; what changed -/
theorem store_ok2 {M : Model} {A : Around} {E : Value → Shared → Prop} {i : Nat} {x : Str} {v : V} {u : Value} {Q : Unit → Shared → Prop} (I : Inv X pins σ H s) (hN : X.N.Nodup) (hi : X.N[i]? = some x) (hx : Loc X.env.scope x) (r : RelV v u)
    (h : ∀ s', Inv X pins (σ.set i (some v)) H s' → (∃ a, Heap.SameBut a s.heap s'.heap ∧ (a = X.env.locals ∨ X.env.cells.lookup x = some a)) → Q () s') (hf : X.fn x = true ∨ X.env.scope.names.lookup x = some .local := by first | exact .inl rfl | exact .inr rfl | assumption) : wpAny M A (storeName X.env x u) Q E s := by
  obtain ⟨m, hn, hl⟩ := id I.loc
  have hcls : (X.env.scope.kind == .class || (X.env.scope.kind == .module && X.env.locals != X.env.globals)) = false := by rw [I.ok.kind]; rfl
  have hiσ : i < σ.length := by rw [I.len]; exact (List.getElem?_eq_some_iff.mp hi).1
  have cne := I.cne
  have tracked : ∀ {a : Addr} {h' : Heap}, (∃ o, s.heap.get? a = some o ∧ H a = none) → Heap.SameBut a s.heap h' → HOk X.prog X.w H h' := fun {a h'} ha hs b ob e => by
    obtain ⟨_, _, hfree⟩ := ha
    refine (I.hok b ob e).stay (fun c w' hc q => (hs.2 c ?_).trans q) (fun _ q => q) fun _ _ q => q
    rintro rfl
    rcases hc with rfl | hc
    · rw [hfree] at e; cases e
    · rw [hfree] at hc; cases hc
  rcases hx with hk | hk
  · refine wpAny_storeName_local hk hn (fun h' hn' hs => ?_) hcls
    obtain ⟨oL, _, _, hoL, _⟩ := id hn
    refine h _ ⟨I.ok, I.os, I.bare, ⟨fun b o e n hb hx => ?_, fun b o e n hb hx => ?_, I.base.free, fun b o e hx => ?_, I.base.tups, I.base.frzs, I.base.tbls⟩, ⟨_, hn', fun j y v' e1 e2 e3 => ?_⟩, fun y c e => ?_, I.free, I.freeC, fun p hp => ?_, tracked ⟨oL, hoL, I.free⟩ hs, by simpa using I.len⟩ ⟨_, hs, .inl rfl⟩
    · exact (hs.2 b (Nat.ne_of_lt (Nat.lt_of_lt_of_le (Heap.lt_size e) I.ok.above))).trans (I.base.keep b o e n hb hx)
    · obtain ⟨sl, e1⟩ := I.base.slot b o e n hb hx
      exact ⟨sl, (hs.2 b (Nat.ne_of_lt (Nat.lt_of_lt_of_le (Heap.lt_size e) I.ok.above))).trans e1⟩
    · obtain ⟨o', e1⟩ := I.base.there b o e hx
      exact ⟨o', (hs.2 b (Nat.ne_of_lt (Nat.lt_of_lt_of_le (Heap.lt_size e) I.ok.above))).trans e1⟩
    · by_cases hj : j = i
      · subst hj
        rw [hi] at e1; cases e1
        rw [List.getElem?_set_self hiσ] at e2
        cases e2
        exact ⟨u, r, .inl ⟨hk, by simp⟩⟩
      · rw [List.getElem?_set_ne (Ne.symm hj)] at e2
        obtain ⟨u', r', q⟩ := hl j y v' e1 e2 e3
        refine ⟨u', r', ?_⟩
        rcases q with ⟨k, e⟩ | ⟨k, c, e, z⟩
        · refine .inl ⟨k, ?_⟩
          have : y ≠ x := fun e => hj (nodup_ix hN e1 (e ▸ hi))
          simp [this, e]
        · exact .inr ⟨k, c, e, z.sameBut hs (cne y c e)⟩
    · obtain ⟨w', z⟩ := I.cell y c e
      exact ⟨w', z.sameBut hs (cne y c e)⟩
    · obtain ⟨e, n, ne, nf, d⟩ := I.pin p hp
      exact ⟨(hs.2 p.1 ne).trans e, n, ne, nf, d⟩
  · have hfn : X.fn x = true := by
      rcases hf with z | z
      · exact z
      · rw [z] at hk; cases hk
    obtain ⟨c, hc⟩ := I.ok.has x (.inl hk)
    obtain ⟨w', z⟩ := I.cell x c hc
    refine wpAny_storeName_cell I.ok.kind hk hc z (fun h' hc' hs => ?_)
    obtain ⟨oc, hoc, hocd⟩ := id z
    refine h { s with heap := h' } ⟨I.ok, I.os, I.bare, ⟨fun b o e n hb hx => ?_, fun b o e n hb hx => ?_, I.base.free, fun b o e hx => ?_, I.base.tups, I.base.frzs, I.base.tbls⟩, ⟨m, hn.sameBut hs (Ne.symm (cne x c hc)), fun j y v' e1 e2 e3 => ?_⟩, fun y c' e => ?_, I.free, I.freeC, fun p hp => ?_, tracked ⟨oc, hoc, I.freeC x c hc⟩ hs, by simpa using I.len⟩ ⟨c, hs, .inr hc⟩
    · exact (hs.2 b (Nat.ne_of_lt (Nat.lt_of_lt_of_le (Heap.lt_size e) (I.ok.cab x c hfn hc)))).trans (I.base.keep b o e n hb hx)
    · obtain ⟨sl, e1⟩ := I.base.slot b o e n hb hx
      exact ⟨sl, (hs.2 b (Nat.ne_of_lt (Nat.lt_of_lt_of_le (Heap.lt_size e) (I.ok.cab x c hfn hc)))).trans e1⟩
    · obtain ⟨o', e1⟩ := I.base.there b o e hx
      exact ⟨o', (hs.2 b (Nat.ne_of_lt (Nat.lt_of_lt_of_le (Heap.lt_size e) (I.ok.cab x c hfn hc)))).trans e1⟩
    · by_cases hj : j = i
      · subst hj
        rw [hi] at e1; cases e1
        rw [List.getElem?_set_self hiσ] at e2
        cases e2
        exact ⟨u, r, .inr ⟨.inl hk, c, hc, hc'⟩⟩
      · rw [List.getElem?_set_ne (Ne.symm hj)] at e2
        obtain ⟨u', r', q⟩ := hl j y v' e1 e2 e3
        refine ⟨u', r', ?_⟩
        rcases q with q | ⟨k, c', e, z'⟩
        · exact .inl q
        · refine .inr ⟨k, c', e, z'.sameBut hs ?_⟩
          rintro rfl
          exact hj (nodup_ix hN e1 (I.ok.inj _ _ _ e hc ▸ hi))
    · by_cases hcc : c' = c
      · subst hcc; exact ⟨_, hc'⟩
      · obtain ⟨w2, z2⟩ := I.cell y c' e
        exact ⟨w2, z2.sameBut hs hcc⟩
    · obtain ⟨e, n, ne, nf, d⟩ := I.pin p hp
      refine ⟨(hs.2 p.1 ?_).trans e, n, ne, nf, d⟩
      intro q
      rw [q, hoc] at e
      have q' : oc = p.2 := Option.some.inj e
      exact d w' (by rw [← q']; exact hocd)
theorem store_ok {M : Model} {A : Around} {E : Value → Shared → Prop} {i : Nat} {x : Str} {v : V} {u : Value} {Q : Unit → Shared → Prop} (I : Inv X pins σ H s) (hN : X.N.Nodup) (hi : X.N[i]? = some x) (hx : Loc X.env.scope x) (r : RelV v u)
    (h : ∀ s', Inv X pins (σ.set i (some v)) H s' → Q () s') (hf : X.fn x = true ∨ X.env.scope.names.lookup x = some .local := by first | exact .inl rfl | exact .inr rfl | assumption) : wpAny M A (storeName X.env x u) Q E s :=
  store_ok2 I hN hi hx r (fun s' I' _ => h s' I') hf
/-- behind a call or a block, the state as it is -/
theorem Inv.call' {s' : Shared} {ch : List Addr} (I : Inv X pins σ H s) (ho : s'.os = s.os) (u : Un (frs X.stack) ch H H' s.heap s'.heap) (hok : HOk X.prog X.w H' s'.heap) (hg : AllBare s'.gens)
    (hch : ∀ b ∈ ch, (b ∈ X.ex ∨ X.s₀.heap.objs.size ≤ b) ∧ b ≠ X.env.locals ∧ (∀ x c, X.env.cells.lookup x = some c → c ≠ b) ∧ ∀ p ∈ X.pn ++ pins, p.1 ≠ b) : Inv X pins σ H' s' := by
  obtain ⟨h', g', d', t', o'⟩ := s'
  have e : o' = s.os := ho
  subst e
  exact I.call (g' := g') (t' := t') (d' := d') u hok hg hch
end

/-! ### the judgements -/
/-- an exception: its class, its own dict's address (where it has one), the abstract heap behind it -/
abbrev XK := Value → Option Addr → Hp → Prop
abbrev St := List (Option V)
abbrev VK := V → Hp → Prop
/-- an expression's reading; a test's; an argument list's -/
abbrev TE := St → Hp → VK → Prop
abbrev TT := St → Hp → (Bool → Hp → Prop) → Prop
abbrev TA := St → Hp → (List V → Hp → Prop) → Prop
/-- what is wanted behind a statement -/
structure Ends where
  nx : St → Hp → Prop
  rt : VK
  bk : St → Hp → Prop := fun _ _ => False
  ct : St → Hp → Prop := fun _ _ => False
abbrev TS := Ends → St → Hp → Prop

def EP (X : Cx) (pins : List (Addr × Obj)) (σ : St) (Q : VK) (u : Value) (s' : Shared) : Prop := ∃ v H', Inv X pins σ H' s' ∧ RelV v u ∧ Q v H'
def TP (X : Cx) (pins : List (Addr × Obj)) (σ : St) (Q : Bool → Hp → Prop) (b : Bool) (s' : Shared) : Prop := ∃ H', Inv X pins σ H' s' ∧ Q b H'
def AP (X : Cx) (pins : List (Addr × Obj)) (σ : St) (Q : List V → Hp → Prop) (us : List Value) (s' : Shared) : Prop := ∃ vs H', Inv X pins σ H' s' ∧ Vals vs us ∧ Q vs H'
def SP (X : Cx) (pins : List (Addr × Obj)) (D : Ends) (f : Flow) (s' : Shared) : Prop :=
  match f with
  | .next => ∃ σ' H', Inv X pins σ' H' s' ∧ D.nx σ' H'
  | .brk => ∃ σ' H', Inv X pins σ' H' s' ∧ D.bk σ' H'
  | .cont => ∃ σ' H', Inv X pins σ' H' s' ∧ D.ct σ' H'
  | .ret u => ∃ v σ' H', Inv X pins σ' H' s' ∧ RelV v u ∧ D.rt v H'

def PE (X : Cx) (e : Expr) (t : TE) : Prop :=
  ∀ (pins : List (Addr × Obj)) (s : Shared) (σ : St) (H : Hp) (Q : VK), Inv X pins σ H s → t σ H Q → wpAny (model X.prog X.w) X.A (eval e X.env) (EP X pins σ Q) X.xe s
def PT (X : Cx) (e : Expr) (t : TT) : Prop :=
  ∀ (pins : List (Addr × Obj)) (s : Shared) (σ : St) (H : Hp) (Q : Bool → Hp → Prop), Inv X pins σ H s → t σ H Q → wpAny (model X.prog X.w) X.A (isTrue e X.env (eval e X.env)) (TP X pins σ Q) X.xe s
/-- a test whatever its 'whole' is (and, or) -/
def PW (X : Cx) (e : Expr) (t : TT) : Prop :=
  ∀ (whole : Sem Value) (pins : List (Addr × Obj)) (s : Shared) (σ : St) (H : Hp) (Q : Bool → Hp → Prop), Inv X pins σ H s → t σ H Q → wpAny (model X.prog X.w) X.A (isTrue e X.env whole) (TP X pins σ Q) X.xe s
theorem PW.pt {X : Cx} {e : Expr} {t : TT} (h : PW X e t) : PT X e t := h _
/-- an argument list (no star), from the left -/
def PA (X : Cx) (es : List Expr) (t : TA) : Prop :=
  ∀ (pos : Pos) (pins : List (Addr × Obj)) (s : Shared) (σ : St) (H : Hp) (Q : List V → Hp → Prop), Inv X pins σ H s → t σ H Q → wpAny (model X.prog X.w) X.A (spliced (backTo pos (starEach es X.env))) (AP X pins σ Q) X.xe s
def PS (X : Cx) (st : Stmt) (t : TS) : Prop :=
  ∀ (pins : List (Addr × Obj)) (s : Shared) (σ : St) (H : Hp) (D : Ends), Inv X pins σ H s → t D σ H → wpAny (model X.prog X.w) X.A (exec st X.env) (SP X pins D) X.xe s
def PSs (X : Cx) (st : List Stmt) (t : TS) : Prop :=
  ∀ (pins : List (Addr × Obj)) (s : Shared) (σ : St) (H : Hp) (D : Ends), Inv X pins σ H s → t D σ H → wpAny (model X.prog X.w) X.A (execs st X.env) (SP X pins D) X.xe s
/-- weaken the end -/
theorem thn {α : Type} {t : Sem α} {Q Q' : α → Shared → Prop} {M : Model} {A : Around} {E : Value → Shared → Prop} {s : Shared} (h : wpAny M A t Q E s) (hQ : ∀ a s, Q a s → Q' a s) : wpAny M A t Q' E s := wpAny_mono h hQ fun _ _ x => x
end L2

namespace L2
open PySem PySem.Spec PyProof.Rows
section
variable {X : Cx}

/-- two expressions in a row -/
theorem bin {a b : Expr} {ta tb : TE} (ha : PE X a ta) (hb : PE X b tb) {pins : List (Addr × Obj)} {s : Shared} {σ : St} {H : Hp} {R : V → V → Hp → Prop} (I : Inv X pins σ H s) (h : ta σ H fun x H1 => tb σ H1 fun y H2 => R x y H2)
    {α : Type} {Q : α → Shared → Prop} {f : Value → Value → Sem α}
    (hf : ∀ v u s2 x y H2, Inv X pins σ H2 s2 → RelV x v → RelV y u → R x y H2 → wpAny (model X.prog X.w) X.A (f v u) Q X.xe s2) :
    wpAny (model X.prog X.w) X.A (eval a X.env) (fun v s₁ => wpAny (model X.prog X.w) X.A (eval b X.env) (fun u s₂ => wpAny (model X.prog X.w) X.A (f v u) Q X.xe s₂) X.xe s₁) X.xe s := by
  refine thn (ha pins s σ H _ I h) fun v s1 ⟨x, H1, I1, r1, q1⟩ => ?_
  refine thn (hb pins s1 σ H1 _ I1 q1) fun u s2 ⟨y, H2, I2, r2, q2⟩ => ?_
  exact hf v u s2 x y H2 I2 r1 r2 q2

/-! ### names and constants -/
def tVar (i : Nat) : TE := fun σ H Q => ∃ v, σ[i]? = some (some v) ∧ Q v H
def tC (v : V) : TE := fun _ H Q => Q v H
theorem pe_var {i : Nat} {x : Str} {pos : Pos} (hN : X.N[i]? = some x) (hv : Vis X.env.scope x) (hd : (x == ("__debug__" : Str)) = false := by decide) (hcd : (x == ("__classdict__" : Str)) = false := by decide) : PE X (.Name x pos) (tVar i) := by
  intro pins s σ H Q I h
  obtain ⟨v, e, h⟩ := h
  obtain ⟨m, hn, hl⟩ := I.loc
  obtain ⟨u, r, l⟩ := hl i x v hN e hv
  have fin : EP X pins σ Q u s := ⟨v, H, I, r, h⟩
  rcases l with ⟨hk, hm⟩ | ⟨hk, c, hc, hcell⟩
  · exact wpAny_Name (wpAny_loadName_local I.ok.kind hk hn hm fin) hd
  · rcases hk with hk | hk
    · exact wpAny_Name (wpAny_loadName_cell I.ok.kind hk hc hcell fin) hd
    · exact wpAny_Name (wpAny_loadName_free I.ok.kind hk hc hcell fin hcd) hd
theorem pe_int {i j pos} : PE X (.Constant (.int i) j pos) (tC (.int i)) := fun _ _ _ H _ I h => wpAny_Constant_int ⟨.int i, H, I.tok _, ⟨_, rfl⟩, h⟩
theorem pe_bl {b j pos} : PE X (.Constant (.bool b) j pos) (tC (.bl b)) := fun _ _ _ H _ I h => Constant_bool ⟨.bl b, H, I, rfl, h⟩
theorem pe_non {j pos} : PE X (.Constant .none j pos) (tC .non) := fun _ _ _ H _ I h => Constant_none ⟨.non, H, I, rfl, h⟩
theorem pe_str {x j pos} : PE X (.Constant (.str x) j pos) (tC (.str x)) := fun _ _ _ H _ I h => Calls.Constant_str ⟨.str x, H, I.tok _, ⟨_, rfl⟩, h⟩

/-- a global name of the def -/
def Gl (X : Cx) (x : Str) : Prop := X.env.kindOf x = some .globalImplicit
theorem ld_glob {E : Value → Shared → Prop} {pins : List (Addr × Obj)} {s : Shared} {σ : St} {H : Hp} {x : Str} {u : Value} {pos : Pos} {Q : Value → Shared → Prop} (I : Inv X pins σ H s) (hg : Gl X x) (hm : X.mg x = some u) (h : Q u s)
    (hd : (x == ("__debug__" : Str)) = false := by decide) : wpAny (model X.prog X.w) X.A (eval (.Name x pos) X.env) Q E s :=
  Calls.Name_function_global I.ok.kind hg (Calls.loadGlobal_global (by rw [I.ok.glob]; exact I.mod.glob.keeps I.bk) hm h) hd
theorem ld_blt {E : Value → Shared → Prop} {pins : List (Addr × Obj)} {s : Shared} {σ : St} {H : Hp} {x : Str} {u : Value} {pos : Pos} {Q : Value → Shared → Prop} (I : Inv X pins σ H s) (hg : Gl X x) (hm : X.mg x = none) (hv : bootBuiltins x = some u) (h : Q u s)
    (hn : x ≠ "__name__" := by decide) (hd : (x == ("__debug__" : Str)) = false := by decide) : wpAny (model X.prog X.w) X.A (eval (.Name x pos) X.env) Q E s := by
  obtain ⟨mb, h1, h2⟩ := I.mod.blt
  exact Calls.Name_function_global I.ok.kind hg (Calls.loadGlobal_builtin (by rw [I.ok.glob]; exact I.mod.glob.keeps I.bk) hm (by rw [I.ok.blt]; exact h1.keeps I.bk) ((h2 x hn).trans hv) h) hd
/-- a module's constant, a class, a function, as a value -/
theorem pe_glob {x : Str} {v : V} {u : Value} {pos : Pos} (hg : Gl X x) (hm : X.mg x = some u) (r : RelV v u) (hd : (x == ("__debug__" : Str)) = false := by decide) : PE X (.Name x pos) (tC v) :=
  fun _ _ _ H _ I h => ld_glob I hg hm ⟨v, H, I, r, h⟩ hd
theorem pe_bltn {x : Str} {v : V} {u : Value} {pos : Pos} (hg : Gl X x) (hm : X.mg x = none) (hv : bootBuiltins x = some u) (r : RelV v u) (hn : x ≠ "__name__" := by decide) (hd : (x == ("__debug__" : Str)) = false := by decide) : PE X (.Name x pos) (tC v) :=
  fun _ _ _ H _ I h => ld_blt I hg hm hv ⟨v, H, I, r, h⟩ hn hd

/-! ### arithmetic -/
/-- two ints -/
def t2I (ta tb : TE) (k : Int → Int → Hp → Prop) : St → Hp → Prop := fun σ H => ta σ H fun x H1 => tb σ H1 fun y H2 => ∃ i j, x = .int i ∧ y = .int j ∧ k i j H2
def tAdd (ta tb : TE) : TE := fun σ H Q => t2I ta tb (fun i j H2 => Q (.int (i + j)) H2) σ H
def tSub (ta tb : TE) : TE := fun σ H Q => t2I ta tb (fun i j H2 => Q (.int (i - j)) H2) σ H
/-- the left factor below 2^64 -/
def tMul (ta tb : TE) : TE := fun σ H Q => t2I ta tb (fun i j H2 => (-(2 ^ 64) < i ∧ i < 2 ^ 64) ∧ Q (.int (i * j)) H2) σ H
variable {a b : Expr} {ta tb : TE} {pos : Pos}
theorem pe_add (ha : PE X a ta) (hb : PE X b tb) : PE X (.BinOp a .Add b pos) (tAdd ta tb) := by
  intro pins s σ H Q I h
  refine wpAny_BinOp (bin ha hb I h fun v u s2 x y H2 I2 rx ry q => ?_)
  obtain ⟨i, j, rfl, rfl, q⟩ := q
  obtain ⟨t, rfl⟩ := rx
  obtain ⟨t', rfl⟩ := ry
  exact add_int ⟨.int _, H2, I2.tok _, ⟨_, rfl⟩, q⟩
theorem pe_sub (ha : PE X a ta) (hb : PE X b tb) : PE X (.BinOp a .Sub b pos) (tSub ta tb) := by
  intro pins s σ H Q I h
  refine wpAny_BinOp (bin ha hb I h fun v u s2 x y H2 I2 rx ry q => ?_)
  obtain ⟨i, j, rfl, rfl, q⟩ := q
  obtain ⟨t, rfl⟩ := rx
  obtain ⟨t', rfl⟩ := ry
  exact sub_int ⟨.int _, H2, I2.tok _, ⟨_, rfl⟩, q⟩
theorem pe_mul (ha : PE X a ta) (hb : PE X b tb) : PE X (.BinOp a .Mult b pos) (tMul ta tb) := by
  intro pins s σ H Q I h
  refine wpAny_BinOp (bin ha hb I h fun v u s2 x y H2 I2 rx ry q => ?_)
  obtain ⟨i, j, rfl, rfl, ⟨q1, q2⟩, q⟩ := q
  obtain ⟨t, rfl⟩ := rx
  obtain ⟨t', rfl⟩ := ry
  exact mul_int ⟨.int _, H2, I2.tok _, ⟨_, rfl⟩, q⟩ (.of_left (intBits_le_64 q1 q2))

/-! ### comparisons -/
def PC (X : Cx) (op : CmpOp) (a b : Expr) (t : TE) : Prop :=
  ∀ (pins : List (Addr × Obj)) (s : Shared) (σ : St) (H : Hp) (Q : VK), Inv X pins σ H s → t σ H Q →
    wpAny (model X.prog X.w) X.A (eval a X.env) (fun v s₁ => wpAny (model X.prog X.w) X.A (eval b X.env) (fun u s₂ => wpAny (model X.prog X.w) X.A (compareOp op v u) (EP X pins σ Q) X.xe s₂) X.xe s₁) X.xe s
theorem nobehind (b : Expr) {op : CmpOp} (h : op ≠ .In) (h2 : op ≠ .NotIn) : behindInMarks op b = false := by
  have e1 : (op == CmpOp.In) = false := by cases op <;> first | rfl | exact absurd rfl h
  have e2 : (op == CmpOp.NotIn) = false := by cases op <;> first | rfl | exact absurd rfl h2
  cases b <;> simp [behindInMarks, e1, e2]
def tCmp (p : Int → Int → Bool) (ta tb : TE) : TE := fun σ H Q => t2I ta tb (fun i j H2 => Q (.bl (p i j)) H2) σ H
abbrev tLt : TE → TE → TE := tCmp fun i j => decide (i < j)
abbrev tLe : TE → TE → TE := tCmp fun i j => decide (i ≤ j)
abbrev tGt : TE → TE → TE := tCmp fun i j => decide (j < i)
abbrev tGe : TE → TE → TE := tCmp fun i j => decide (j ≤ i)
abbrev tEqI : TE → TE → TE := tCmp fun i j => decide (i = j)
abbrev tNeI : TE → TE → TE := tCmp fun i j => !decide (i = j)
/-- a comparison of two ints, by its rule -/
theorem pc_int {op : CmpOp} {p : Int → Int → Bool} (ha : PE X a ta) (hb : PE X b tb)
    (rule : ∀ (i j : Int) (t u : Tok) (Q : Value → Shared → Prop) (s : Shared), Q (.bool (p i j)) s → wpAny (model X.prog X.w) X.A (compareOp op (.int i t) (.int j u)) Q X.xe s) : PC X op a b (tCmp p ta tb) := by
  intro pins s σ H Q I h
  refine bin ha hb I h fun v u s2 x y H2 I2 rx ry q => ?_
  obtain ⟨i, j, rfl, rfl, q⟩ := q
  obtain ⟨t, rfl⟩ := rx
  obtain ⟨t', rfl⟩ := ry
  exact rule i j t t' _ s2 ⟨.bl _, H2, I2, rfl, q⟩
theorem pc_lt (ha : PE X a ta) (hb : PE X b tb) : PC X .Lt a b (tLt ta tb) := pc_int ha hb fun _ _ _ _ _ _ h => lt_int h
theorem pc_le (ha : PE X a ta) (hb : PE X b tb) : PC X .LtE a b (tLe ta tb) := pc_int ha hb fun _ _ _ _ _ _ h => le_int h
theorem pc_gt (ha : PE X a ta) (hb : PE X b tb) : PC X .Gt a b (tGt ta tb) := pc_int ha hb fun _ _ _ _ _ _ h => gt_int h
theorem pc_ge (ha : PE X a ta) (hb : PE X b tb) : PC X .GtE a b (tGe ta tb) := pc_int ha hb fun _ _ _ _ _ _ h => ge_int h
theorem pc_eqI (ha : PE X a ta) (hb : PE X b tb) : PC X .Eq a b (tEqI ta tb) := pc_int ha hb fun _ _ _ _ _ _ h => eq_int (by rw [Bool.beq_eq_decide_eq]; exact h)
theorem pc_neI (ha : PE X a ta) (hb : PE X b tb) : PC X .NotEq a b (tNeI ta tb) := pc_int ha hb fun _ _ _ _ _ _ h => ne_int (by rw [bne, Bool.beq_eq_decide_eq]; exact h)
/-- is None -/
def tIsN (ta : TE) : TE := fun σ H Q => ta σ H fun x H1 => Q (.bl (decide (x = .non))) H1
def tNotN (ta : TE) : TE := fun σ H Q => ta σ H fun x H1 => Q (.bl (!decide (x = .non))) H1
theorem RelV.none_iff {x : V} {v : Value} (r : RelV x v) : (v == Value.none) = decide (x = .non) := by
  cases x with
  | non => cases r; rfl
  | bl _ => cases r; rfl
  | int _ => obtain ⟨t, rfl⟩ := r; rfl
  | str _ => obtain ⟨t, rfl⟩ := r; rfl
  | byt _ => obtain ⟨t, rfl⟩ := r; rfl
  | flt _ => obtain ⟨t, rfl⟩ := r; rfl
  | ref _ => cases r; rfl
  | ty _ => cases r; rfl
theorem pc_isN {j pos'} (ha : PE X a ta) : PC X .Is a (.Constant .none j pos') (tIsN ta) := by
  intro pins s σ H Q I h
  refine thn (ha pins s σ H _ I h) fun v s1 ⟨x, H1, I1, r1, q1⟩ => ?_
  exact Constant_none (is_none_gen ⟨.bl _, H1, I1, by rw [r1.none_iff]; rfl, q1⟩)
theorem pc_notN {j pos'} (ha : PE X a ta) : PC X .IsNot a (.Constant .none j pos') (tNotN ta) := by
  intro pins s σ H Q I h
  refine thn (ha pins s σ H _ I h) fun v s1 ⟨x, H1, I1, r1, q1⟩ => ?_
  exact Constant_none (isnot_none_gen ⟨.bl _, H1, I1, by rw [r1.none_iff]; rfl, q1⟩)
/-- a comparison as a value, as a test -/
def tB (t : TE) : TT := fun σ H Q => t σ H fun x H1 => ∃ c, x = .bl c ∧ Q c H1
theorem pe_cmp {op : CmpOp} {t : TE} (h : PC X op a b t) (h1 : behindInMarks op b = false := by first | exact nobehind _ (by decide) (by decide) | rfl) : PE X (.Compare a [op] [b] pos) t := fun pins s σ H Q I hw => wpAny_Compare1 (h pins s σ H Q I hw) h1
theorem pt_cmp {op : CmpOp} {t : TE} (h : PC X op a b t) (h1 : behindInMarks op b = false := by first | exact nobehind _ (by decide) (by decide) | rfl) : PT X (.Compare a [op] [b] pos) (tB t) := by
  intro pins s σ H Q I hw
  refine wpAny_isTrue_Compare1 (thn (h pins s σ H _ I hw) fun v s1 h1 => thn h1 fun u s2 h2 => thn h2 fun c s3 ⟨x, H1, I1, r1, q1⟩ => ?_) h1
  obtain ⟨d, rfl, q⟩ := q1
  cases r1
  exact wpAny_truthy_bool ⟨H1, I1, q⟩
/-- an expression whose value is a bool, as a test -/
theorem pt_val {e : Expr} {t : TE} (h : PE X e t) (he : ∀ whole, isTrue e X.env whole = (do let v ← whole; standAt e.pos; holding [v] (truthy v)) := by intro _; rfl) : PT X e (tB t) := by
  intro pins s σ H Q I hw
  refine isTrue_plain (thn (h pins s σ H _ I hw) fun v s1 ⟨x, H1, I1, r1, q1⟩ => ?_) (he _)
  obtain ⟨d, rfl, q⟩ := q1
  cases r1
  exact wpAny_truthy_bool ⟨H1, I1, q⟩

/-! ### and, or, not -/
variable {tA tB' : TT} {rest : List Expr}
def tAnd (t u : TT) : TT := fun σ H Q => t σ H fun c H1 => if c = true then u σ H1 Q else Q false H1
def tOr (t u : TT) : TT := fun σ H Q => t σ H fun c H1 => if c = true then Q true H1 else u σ H1 Q
def tNot (t : TT) : TT := fun σ H Q => t σ H fun c H1 => Q (!c) H1
theorem pw_and1 (ha : PT X a tA) : PW X (.BoolOp .And [a] pos) tA := by
  intro wh pins s σ H Q I h
  refine isTrue_and (thn (ha pins s σ H Q I h) fun c s1 e => ?_)
  cases c with
  | true => exact isTrue_and_nil e
  | false => exact e
theorem pw_or1 (ha : PT X a tA) : PW X (.BoolOp .Or [a] pos) tA := by
  intro wh pins s σ H Q I h
  refine isTrue_or (thn (ha pins s σ H Q I h) fun c s1 e => ?_)
  cases c with
  | false => exact isTrue_or_nil e
  | true => exact e
theorem pw_and (ha : PT X a tA) (hb : PW X (.BoolOp .And (b :: rest) pos) tB') : PW X (.BoolOp .And (a :: b :: rest) pos) (tAnd tA tB') := by
  intro wh pins s σ H Q I h
  refine isTrue_and (thn (ha pins s σ H _ I h) fun c s1 ⟨H1, I1, q1⟩ => ?_)
  cases c with
  | true => exact hb wh pins s1 σ H1 Q I1 q1
  | false => exact ⟨H1, I1, q1⟩
theorem pw_or (ha : PT X a tA) (hb : PW X (.BoolOp .Or (b :: rest) pos) tB') : PW X (.BoolOp .Or (a :: b :: rest) pos) (tOr tA tB') := by
  intro wh pins s σ H Q I h
  refine isTrue_or (thn (ha pins s σ H _ I h) fun c s1 ⟨H1, I1, q1⟩ => ?_)
  cases c with
  | true => exact ⟨H1, I1, q1⟩
  | false => exact hb wh pins s1 σ H1 Q I1 q1
theorem pt_not (ha : PT X a tA) : PT X (.UnaryOp .Not a pos) (tNot tA) := by
  intro pins s σ H Q I h
  exact isTrue_not (ha pins s σ H (fun c H1 => Q (!c) H1) I h)
/-- .. as values (bools) -/
def tAndV (ta tb : TE) : TE := fun σ H Q => ta σ H fun x H1 => ∃ c, x = .bl c ∧ if c = true then tb σ H1 Q else Q (.bl false) H1
def tOrV (ta tb : TE) : TE := fun σ H Q => ta σ H fun x H1 => ∃ c, x = .bl c ∧ if c = true then Q (.bl true) H1 else tb σ H1 Q
def tNotV (ta : TE) : TE := fun σ H Q => ta σ H fun x H1 => ∃ c, x = .bl c ∧ Q (.bl (!c)) H1
theorem pe_one {op} {t : TE} (h : PE X a t) : PE X (.BoolOp op [a] pos) t := fun pins s σ H Q I hw => BoolOp_one (h pins s σ H Q I hw)
theorem pe_and (ha : PE X a ta) (hb : PE X (.BoolOp .And (b :: rest) pos) tb) : PE X (.BoolOp .And (a :: b :: rest) pos) (tAndV ta tb) := by
  intro pins s σ H Q I h
  refine BoolOp_and (thn (ha pins s σ H _ I h) fun v s1 ⟨x, H1, I1, r1, q1⟩ => ?_)
  obtain ⟨c, rfl, q1⟩ := q1
  cases r1
  refine wpAny_truthy_bool ?_
  cases c with
  | true => exact hb pins s1 σ H1 Q I1 q1
  | false => exact ⟨.bl false, H1, I1, rfl, q1⟩
theorem pe_or (ha : PE X a ta) (hb : PE X (.BoolOp .Or (b :: rest) pos) tb) : PE X (.BoolOp .Or (a :: b :: rest) pos) (tOrV ta tb) := by
  intro pins s σ H Q I h
  refine BoolOp_or (thn (ha pins s σ H _ I h) fun v s1 ⟨x, H1, I1, r1, q1⟩ => ?_)
  obtain ⟨c, rfl, q1⟩ := q1
  cases r1
  refine wpAny_truthy_bool ?_
  cases c with
  | false => exact hb pins s1 σ H1 Q I1 q1
  | true => exact ⟨.bl true, H1, I1, rfl, q1⟩
theorem pe_not (ha : PE X a ta) : PE X (.UnaryOp .Not a pos) (tNotV ta) := by
  intro pins s σ H Q I h
  refine UnaryOp_ (thn (ha pins s σ H _ I h) fun v s1 ⟨x, H1, I1, r1, q1⟩ => ?_)
  obtain ⟨c, rfl, q1⟩ := q1
  cases r1
  exact not_of (wpAny_truthy_bool ⟨.bl (!c), H1, I1, rfl, q1⟩)
/-- a if t else b -/
def tIf (t : TT) (ta tb : TE) : TE := fun σ H Q => t σ H fun c H1 => if c = true then ta σ H1 Q else tb σ H1 Q
theorem pe_ifExp {c : Expr} (hc : PT X c tA) (ha : PE X a ta) (hb : PE X b tb) : PE X (.IfExp c a b pos) (tIf tA ta tb) := by
  intro pins s σ H Q I h
  refine wpAny_IfExp (thn (hc pins s σ H _ I h) fun d s1 ⟨H1, I1, q1⟩ => ?_)
  cases d with
  | true => exact ha pins s1 σ H1 Q I1 q1
  | false => exact hb pins s1 σ H1 Q I1 q1
end
end L2

namespace L2
open PySem PySem.Spec PyProof.Rows

/-! ### a list, a tuple that is read: tracked, frozen, or an object of the module -/
def SqL (K : PySem.W.Frag) (H : Hp) (a : Addr) (xs : List V) : Prop :=
  Rd H a (.lst xs) ∨
    ∃ (o : Obj) (its : Array Value) (n : Nat), K.lookup a = some o ∧ o.cls = .type "list" ∧ o.dict = none ∧ o.data = .seq its n ∧ its.size ≤ sizeLine ∧ Vals xs its.toList
def SqT (K : PySem.W.Frag) (H : Hp) (a : Addr) (xs : List V) : Prop :=
  Rd H a (.tup xs) ∨
    ∃ (o : Obj) (its : Array Value) (n : Nat), K.lookup a = some o ∧ o.cls = .type "tuple" ∧ o.data = .seq its n ∧ its.size ≤ sizeLine ∧ Vals xs its.toList
def absV : Value → Option V
  | .none => some .non
  | .bool b => some (.bl b)
  | .int i _ => some (.int i)
  | .str x _ => some (.str x)
  | .bytes b _ => some (.byt b)
  | .float b _ => some (.flt b)
  | .ref a => some (.ref a)
  | .type n => some (.ty n)
  | _ => none
theorem RelV.abs {x : V} {u : Value} (r : RelV x u) : absV u = some x := by
  cases x with
  | non => cases r; rfl
  | bl _ => cases r; rfl
  | int _ => obtain ⟨t, rfl⟩ := r; rfl
  | str _ => obtain ⟨t, rfl⟩ := r; rfl
  | byt _ => obtain ⟨t, rfl⟩ := r; rfl
  | flt _ => obtain ⟨t, rfl⟩ := r; rfl
  | ref _ => cases r; rfl
  | ty _ => cases r; rfl
theorem RelV.inj {x y : V} {u : Value} (r : RelV x u) (q : RelV y u) : x = y := Option.some.inj (r.abs.symm.trans q.abs)
theorem Vals.inj : ∀ {xs ys : List V} {us : List Value}, Vals xs us → Vals ys us → xs = ys
  | _, _, _, .nil, .nil => rfl
  | _, _, _, .cons r t, .cons r' t' => by rw [r.inj r', Vals.inj t t']
section
variable {X : Cx} {pins : List (Addr × Obj)} {σ : St} {H : Hp} {s : Shared} {a : Addr} {xs ys : List V}
theorem SqL.of {K : PySem.W.Frag} (h : H a = some (.lst xs)) : SqL K H a xs := .inl (.inl h)
theorem SqT.of {K : PySem.W.Frag} (h : H a = some (.tup xs)) : SqT K H a xs := .inl (.inl h)
theorem Inv.list (I : Inv X pins σ H s) (h : SqL X.K H a xs) : ∃ its : List Value, Vals xs its ∧ PlainL s.heap a its.toArray ∧ xs.length ≤ sizeLine := by
  rcases h with h | ⟨o, its, n, hk, hc, hd, hs, hz, r⟩
  · obtain ⟨z, its, n, r, e⟩ := h.ok I.hok
    exact ⟨its, r, ⟨_, n, e, rfl, rfl, rfl⟩, z⟩
  · refine ⟨its.toList, r, ⟨o, n, I.kIn a o hk, hc, hd, by simpa using hs⟩, ?_⟩
    have e := r.length
    simp only [Array.length_toList] at e
    omega
theorem Inv.tuple (I : Inv X pins σ H s) (h : SqT X.K H a xs) : ∃ its : List Value, Vals xs its ∧ IsTup s.heap a its.toArray ∧ xs.length ≤ sizeLine := by
  rcases h with h | ⟨o, its, n, hk, hc, hs, hz, r⟩
  · obtain ⟨z, its, r, p⟩ := h.ok I.hok
    exact ⟨its, r, p, z⟩
  · refine ⟨its.toList, r, ⟨o, I.kIn a o hk, hc, n, by simpa using hs⟩, ?_⟩
    have e := r.length
    simp only [Array.length_toList] at e
    omega
theorem Inv.list_inj (I : Inv X pins σ H s) (h : SqL X.K H a xs) (h' : SqL X.K H a ys) : xs = ys := by
  obtain ⟨its, r, ⟨o, n, e, _, _, d⟩, _⟩ := I.list h
  obtain ⟨its', r', ⟨o', n', e', _, _, d'⟩, _⟩ := I.list h'
  rw [e] at e'; cases e'
  rw [d] at d'
  injection d' with d1 _
  have : its = its' := by simpa using congrArg Array.toList d1
  subst this
  exact r.inj r'
theorem Inv.tuple_inj (I : Inv X pins σ H s) (h : SqT X.K H a xs) (h' : SqT X.K H a ys) : xs = ys := by
  obtain ⟨its, r, ⟨o, e, _, n, d⟩, _⟩ := I.tuple h
  obtain ⟨its', r', ⟨o', e', _, n', d'⟩, _⟩ := I.tuple h'
  rw [e] at e'; cases e'
  rw [d] at d'
  injection d' with d1 _
  have : its = its' := by simpa using congrArg Array.toList d1
  subst this
  exact r.inj r'
end

/-! ### another wish about exceptions -/
abbrev Cx.wish (X : Cx) (E : Value → Shared → Prop) : Cx := { X with xe := E }
/-- no exception leaves -/
abbrev Cx.nox (X : Cx) : Cx := X.wish fun _ _ => False
theorem Cx.Ok.wish {X : Cx} (ok : X.Ok) (E : Value → Shared → Prop) : (X.wish E).Ok :=
  ⟨ok.mod, ok.kind, ok.glob, ok.blt, ok.above, ok.inj, ok.has, ok.cab, ok.hd, ok.frames, ok.stk, ok.exf, ok.bs, ok.bsz, ok.noex, ok.exfs, ok.funs, ok.frf⟩
theorem Cx.Ok.unwish {X : Cx} {E : Value → Shared → Prop} (ok : (X.wish E).Ok) : X.Ok :=
  ⟨ok.mod, ok.kind, ok.glob, ok.blt, ok.above, ok.inj, ok.has, ok.cab, ok.hd, ok.frames, ok.stk, ok.exf, ok.bs, ok.bsz, ok.noex, ok.exfs, ok.funs, ok.frf⟩
section
variable {X : Cx} {pins : List (Addr × Obj)} {σ : St} {H : Hp} {s : Shared} {E : Value → Shared → Prop}
theorem Inv.wish (I : Inv X pins σ H s) (E : Value → Shared → Prop) : Inv (X.wish E) pins σ H s := ⟨I.ok.wish E, I.os, I.bare, I.base, I.loc, I.cell, I.free, I.freeC, I.pin, I.hok, I.len⟩
theorem Inv.unwish (I : Inv (X.wish E) pins σ H s) : Inv X pins σ H s := ⟨I.ok.unwish, I.os, I.bare, I.base, I.loc, I.cell, I.free, I.freeC, I.pin, I.hok, I.len⟩
theorem SP.unwish {D : Ends} {f : Flow} {s' : Shared} (h : SP (X.wish E) pins D f s') : SP X pins D f s' := by
  cases f with
  | next => obtain ⟨σ', H', I, q⟩ := h; exact ⟨σ', H', I.unwish, q⟩
  | brk => obtain ⟨σ', H', I, q⟩ := h; exact ⟨σ', H', I.unwish, q⟩
  | cont => obtain ⟨σ', H', I, q⟩ := h; exact ⟨σ', H', I.unwish, q⟩
  | ret u => obtain ⟨v, σ', H', I, r, q⟩ := h; exact ⟨v, σ', H', I.unwish, r, q⟩
theorem PE.nox {e : Expr} {t : TE} (h : PE X.nox e t) : PE X e t := fun pins s σ H Q I hw =>
  wpAny_mono (h pins s σ H Q (I.wish _) hw) (fun _ _ ⟨v, H', I', r, q⟩ => ⟨v, H', I'.unwish, r, q⟩) fun _ _ z => False.elim z
theorem PT.nox {e : Expr} {t : TT} (h : PT X.nox e t) : PT X e t := fun pins s σ H Q I hw =>
  wpAny_mono (h pins s σ H Q (I.wish _) hw) (fun _ _ ⟨H', I', q⟩ => ⟨H', I'.unwish, q⟩) fun _ _ z => False.elim z
theorem PSs.nox {st : List Stmt} {t : TS} (h : PSs X.nox st t) : PSs X st t := fun pins s σ H D I hw =>
  wpAny_mono (h pins s σ H D (I.wish _) hw) (fun _ _ q => q.unwish) fun _ _ z => False.elim z
end

/-! ### blocks and small statements -/
section
variable {X : Cx} {st : Stmt} {rest : List Stmt} {t u : TS} {e : Expr} {te : TE} {pos : Pos}
def tNext : TS := fun D σ H => D.nx σ H
def tSeq (t u : TS) : TS := fun D σ H => t { D with nx := u D } σ H
theorem pss_nil : PSs X [] tNext := fun _ _ σ H _ I h => wpAny_execs_nil ⟨σ, H, I, h⟩
theorem pss_cons (h1 : PS X st t) (h2 : PSs X rest u) : PSs X (st :: rest) (tSeq t u) := by
  intro pins s σ H D I h
  refine wpAny_execs_cons (thn (h1 pins s σ H { D with nx := u D } I h) fun f s1 q => ?_)
  cases f with
  | next =>
    obtain ⟨σ', H', I', q⟩ := q
    exact h2 pins s1 σ' H' D I' q
  | ret v => exact q
  | brk => exact q
  | cont => exact q
theorem pss_one (h1 : PS X st t) : PSs X [st] t := by
  intro pins s σ H D I h
  refine wpAny_execs_cons (thn (h1 pins s σ H D I h) fun f s1 q => ?_)
  cases f with
  | next => exact wpAny_execs_nil q
  | ret v => exact q
  | brk => exact q
  | cont => exact q
def tBreak : TS := fun D σ H => D.bk σ H
def tCont : TS := fun D σ H => D.ct σ H
theorem ps_pass : PS X (.Pass pos) tNext := fun _ _ σ H _ I h => wpAny_Pass ⟨σ, H, I, h⟩
theorem ps_break : PS X (.Break pos) tBreak := fun _ _ σ H _ I h => wpAny_Break ⟨σ, H, I, h⟩
theorem ps_continue : PS X (.Continue pos) tCont := fun _ _ σ H _ I h => wpAny_Continue ⟨σ, H, I, h⟩
/-- in a def's body nothing is shown -/
theorem Inv.quiet {pins : List (Addr × Obj)} {σ : St} {H : Hp} {s : Shared} (I : Inv X pins σ H s) : interactive X.env = false := by simp [interactive, I.ok.kind]
/-- a docstring -/
theorem ps_doc {x j pos pos'} : PS X (.Expr (.Constant (.str x) j pos) pos') tNext := fun _ s σ H _ I h => wpAny_Expr (Calls.Constant_str (show SP X _ _ .next { s with toks := s.toks + 1 } from ⟨σ, H, I.tok _, h⟩)) I.quiet
/-- an expression whose value is dropped -/
def tDrop (te : TE) : TS := fun D σ H => te σ H fun _ H1 => D.nx σ H1
theorem ps_expr (he : PE X e te) (hs : swapsWith e none pos.line X.env = pure false := by rfl) : PS X (.Expr e pos) (tDrop te) := by
  intro pins s σ H D I h
  exact wpAny_Expr_any (thn (he pins s σ H _ I h) fun v s1 ⟨x, H1, I1, r1, q1⟩ => ⟨σ, H1, I1, q1⟩) I.quiet hs
def tRet (te : TE) : TS := fun D σ H => te σ H D.rt
theorem ps_ret (he : PE X e te) : PS X (.Return (some e) pos) (tRet te) := by
  intro pins s σ H D I h
  exact wpAny_Return_some (thn (he pins s σ H _ I h) fun v s1 ⟨x, H1, I1, r1, q1⟩ => ⟨x, σ, H1, I1, r1, q1⟩)
def tRetN : TS := fun D _ H => D.rt .non H
theorem ps_retN : PS X (.Return none pos) tRetN := fun _ _ σ H _ I h => wpAny_Return_none ⟨.non, σ, H, I, rfl, h⟩
def tIfS (c : TT) (t u : TS) : TS := fun D σ H => c σ H fun b H1 => if b = true then t D σ H1 else u D σ H1
theorem ps_if {c : Expr} {a b : List Stmt} {tc : TT} (hc : PT X c tc) (ha : PSs X a t) (hb : PSs X b u) : PS X (.If c a b pos) (tIfS tc t u) := by
  intro pins s σ H D I h
  refine wpAny_If (thn (hc pins s σ H _ I h) fun d s1 ⟨H1, I1, q1⟩ => ?_)
  cases d with
  | true => exact ha pins s1 σ H1 D I1 q1
  | false => exact hb pins s1 σ H1 D I1 q1
/-- code that the proof never comes to -/
def tNever : TS := fun _ _ _ => False
theorem ps_never : PS X st tNever := fun _ _ _ _ _ _ h => h.elim
theorem pss_never {sts : List Stmt} : PSs X sts tNever := fun _ _ _ _ _ _ h => h.elim
end

/-! ### targets -/
abbrev TG := V → St → Hp → (St → Hp → Prop) → Prop
abbrev TGs := List V → St → Hp → (St → Hp → Prop) → Prop
def PG (X : Cx) (target : Expr) (t : TG) : Prop :=
  ∀ (pins : List (Addr × Obj)) (s : Shared) (σ : St) (H : Hp) (v : V) (u : Value) (Q : St → Hp → Prop), Inv X pins σ H s → RelV v u → t v σ H Q →
    wpAny (model X.prog X.w) X.A (assign target X.env u) (fun _ s' => ∃ σ' H', Inv X pins σ' H' s' ∧ Q σ' H') X.xe s
/-- several targets, one after another -/
def PGs (X : Cx) (ts : List Expr) (t : TGs) : Prop :=
  ∀ (pins : List (Addr × Obj)) (s : Shared) (σ : St) (H : Hp) (vs : List V) (us : List Value) (Q : St → Hp → Prop), Inv X pins σ H s → Vals vs us → t vs σ H Q →
    wpAny (model X.prog X.w) X.A (assignInOrder ((assignEach ts X.env).map (·.2)) us) (fun _ s' => ∃ σ' H', Inv X pins σ' H' s' ∧ Q σ' H') X.xe s
/-- o[i] = v, by values -/
abbrev TSet := V → V → V → Hp → (Hp → Prop) → Prop
def PSet (X : Cx) (t : TSet) : Prop :=
  ∀ (pins : List (Addr × Obj)) (s : Shared) (σ : St) (H : Hp) (o i v : V) (ov iv u : Value) (Q : Hp → Prop), Inv X pins σ H s → RelV o ov → RelV i iv → RelV v u → t o i v H Q →
    wpAny (model X.prog X.w) X.A (setItem ov iv u) (fun _ s' => ∃ H', Inv X pins σ H' s' ∧ Q H') X.xe s
/-- a op= b, by values -/
abbrev TIp := V → V → Hp → VK → Prop
def PIp (X : Cx) (op : Operator) (t : TIp) : Prop :=
  ∀ (pins : List (Addr × Obj)) (s : Shared) (σ : St) (H : Hp) (x y : V) (v u : Value) (Q : VK), Inv X pins σ H s → RelV x v → RelV y u → t x y H Q →
    wpAny (model X.prog X.w) X.A (inplaceOp op v u) (EP X pins σ Q) X.xe s
section
variable {X : Cx} {pos : Pos}
def gName (i : Nat) : TG := fun v σ H Q => Q (σ.set i (some v)) H
theorem pg_name {i : Nat} {x : Str} (hN : X.N.Nodup) (hi : X.N[i]? = some x) (hx : Loc X.env.scope x) (hf : X.fn x = true ∨ X.env.scope.names.lookup x = some .local := by first | exact .inl rfl | exact .inr rfl | assumption) : PG X (.Name x pos) (gName i) := by
  intro pins s σ H v u Q I r h
  exact wpAny_assign_Name (store_ok I hN hi hx r (fun s' I' => ⟨_, H, I', h⟩) hf)
def gNil : TGs := fun vs σ H Q => vs = [] ∧ Q σ H
def gCons (t : TG) (u : TGs) : TGs := fun vs σ H Q => ∃ v r, vs = v :: r ∧ t v σ H fun σ' H' => u r σ' H' Q
theorem pgs_nil : PGs X [] gNil := by
  intro pins s σ H vs us Q I r h
  obtain ⟨e, h⟩ := h
  subst e
  cases r
  exact assignInOrder_nil ⟨σ, H, I, h⟩
theorem pgs_cons {e : Expr} {es : List Expr} {t : TG} {u : TGs} (h1 : PG X e t) (h2 : PGs X es u)
    (hs : (assignEach (e :: es) X.env).map (·.2) = assign e X.env :: (assignEach es X.env).map (·.2) := by rfl) : PGs X (e :: es) (gCons t u) := by
  intro pins s σ H vs us Q I r h
  obtain ⟨v, vr, e1, h⟩ := h
  subst e1
  cases r with
  | cons r rr =>
    rw [hs]
    refine assignInOrder_cons (thn (h1 pins s σ H _ _ _ I r h) fun _ s1 ⟨σ1, H1, I1, q1⟩ => ?_)
    exact h2 pins s1 σ1 H1 _ _ Q I1 rr q1
/-- (a, b, ..) = a tuple of that length -/
def gTup (K : PySem.W.Frag) (n : Nat) (t : TGs) : TG := fun v σ H Q => ∃ a xs, v = .ref a ∧ SqT K H a xs ∧ xs.length = n ∧ t xs σ H Q
theorem pg_tup {es : List Expr} {k : Nat} {t : TGs} {n : Nat} (hc : X.calm = true) (h : PGs X es t)
    (hn : (assignEach es X.env).length = n := by rfl) (hst : (assignEach es X.env).findIdx? (·.1) = none := by rfl) : PG X (.Tuple es k pos) (gTup X.K n t) := by
  intro pins s σ H v u Q I r hw
  obtain ⟨a, xs, e1, hq, hl, hw⟩ := hw
  subst e1
  cases r
  obtain ⟨its, rv, ht, hz⟩ := I.tuple hq
  refine assign_Tuple_tuple (I.ok.hd hc) ht (by simp [hn, ← hl, rv.length]) hst fun h' hx => ?_
  have I1 : Inv X pins σ H { s with heap := h' } := I.kept (t' := s.toks) fun b o e => hx b o (Nat.ne_of_lt (Heap.lt_size e)) e
  exact h pins _ σ H xs _ Q I1 (by simpa using rv) hw
/-- o[i] = .. -/
def gSub (to ti : TE) (t : TSet) : TG := fun v σ H Q => to σ H fun o H1 => ti σ H1 fun i H2 => t o i v H2 fun H3 => Q σ H3
theorem pg_sub {o i : Expr} {to ti : TE} {t : TSet} (ho : PE X o to) (hi : PE X i ti) (hs : PSet X t)
    (ha : ∀ v, assign (.Subscript o i pos) X.env v = (do
      let ov ← holding [v] (eval o X.env)
      let iv ← holding [v, ov] (eval i X.env)
      standAt pos
      holding [v, ov, iv] (setItem ov iv v)
      release [v, ov, iv] []) := by intro _; rfl) : PG X (.Subscript o i pos) (gSub to ti t) := by
  intro pins s σ H v u Q I r h
  rw [ha]
  refine wpAny_bind (wpAny_holding (thn (ho pins s σ H _ I h) fun ov s1 ⟨x, H1, I1, r1, q1⟩ => ?_))
  refine wpAny_bind (wpAny_holding (thn (hi pins s1 σ H1 _ I1 q1) fun iv s2 ⟨y, H2, I2, r2, q2⟩ => ?_))
  refine wpAny_bind (wpAny_standAt (wpAny_bind (wpAny_holding (thn (hs pins s2 σ H2 x y v ov iv u _ I2 r1 r2 r q2) fun _ s3 ⟨H3, I3, q3⟩ => ?_))))
  exact wpAny_release ⟨σ, H3, I3, q3⟩
/-- target = value -/
def tAsg (te : TE) (g : TG) : TS := fun D σ H => te σ H fun x H1 => g x σ H1 D.nx
theorem ps_asg {tg e : Expr} {te : TE} {g : TG} (he : PE X e te) (hg : PG X tg g) (hs : swapsWithSole [tg] e pos.line X.env = pure false := by rfl) (hw : swappedStores [tg] e X.env = pure none := by rfl)
    (h1 : (assignEach [tg] X.env).map (·.2) = [assign tg X.env] := by rfl) : PS X (.Assign [tg] e pos) (tAsg te g) := by
  intro pins s σ H D I h
  refine wpAny_Assign_stores (thn (he pins s σ H _ I h) fun v s1 ⟨x, H1, I1, r1, q1⟩ => ?_) hs hw
  rw [h1]
  exact thn (hg pins s1 σ H1 x v _ I1 r1 q1) fun _ s2 q => q
/-- name = value -/
theorem ps_set {i : Nat} {x : Str} {e : Expr} {te : TE} {pos' : Pos} (hN : X.N.Nodup) (hi : X.N[i]? = some x) (hx : Loc X.env.scope x) (he : PE X e te) (hs : swapsWith e (some (.Name x pos')) pos.line X.env = pure false := by rfl) (hf : X.fn x = true ∨ X.env.scope.names.lookup x = some .local := by first | exact .inl rfl | exact .inr rfl | assumption) :
    PS X (.Assign [.Name x pos'] e pos) (tAsg te (gName i)) := by
  intro pins s σ H D I h
  refine wpAny_Assign_Name (thn (he pins s σ H _ I h) fun v s1 ⟨y, H1, I1, r1, q1⟩ => ?_) hs
  exact store_ok I1 hN hi hx r1 (fun s2 I2 => ⟨_, H1, I2, q1⟩) hf
/-- a, b = x, y with plain local names: stored from the right; the pair itself is not tracked (the opening rows as in PyProof/Rows/TupAssign.lean:23) -/
def tPar (i j : Nat) (ta : TA) : TS := fun D σ H => ta σ H fun vs H1 => ∃ v w, vs = [v, w] ∧ D.nx ((σ.set i (some v)).set j (some w)) H1
theorem ps_par {i j : Nat} {x y : Str} {a b : Expr} {ta : TA} {px py pt : Pos} {kt k2 pt2} (hc : X.calm = true) (hN : X.N.Nodup) (hi : X.N[i]? = some x) (hj : X.N[j]? = some y) (hij : i ≠ j)
    (hx : X.env.scope.names.lookup x = some .local) (hy : X.env.scope.names.lookup y = some .local) (ha : PA X [a, b] ta)
    (hw : swappedStores [.Tuple [.Name x px, .Name y py] kt pt] (.Tuple [a, b] k2 pt2) X.env = pure (some [x, y]))
    (hs : swapsWithSole [.Tuple [.Name x px, .Name y py] kt pt] (.Tuple [a, b] k2 pt2) pos.line X.env = pure false := by rfl) :
    PS X (.Assign [.Tuple [.Name x px, .Name y py] kt pt] (.Tuple [a, b] k2 pt2) pos) (tPar i j ta) := by
  intro pins s σ H D I h
  rw [exec_Assign_arm]
  refine wpAny_bind (wpAny_standAt ?_)
  rw [hs]
  refine wpAny_bind (wpAny_pure ?_)
  rw [if_neg (by decide)]
  refine wpAny_bind (Tuple_ (thn (ha _ pins s σ H _ I h) fun us s1 ⟨vs, H1, I1, r1, q1⟩ => ?_))
  obtain ⟨v, w, e1, q1⟩ := q1
  subst e1
  obtain ⟨u1, u2, rfl, rv, rw'⟩ : ∃ u1 u2, us = [u1, u2] ∧ RelV v u1 ∧ RelV w u2 := by
    cases r1 with
    | cons p q =>
      cases q with
      | cons p' q' =>
        cases q'
        exact ⟨_, _, rfl, p, p'⟩
  refine wpAny_newObj_type ?_ (by show 2 ≤ sizeLine; decide)
  have I2 : Inv X pins σ H1 { s1 with heap := s1.heap.push { cls := .type "tuple", data := .seq [u1, u2].toArray } } := I1.kept (t' := s1.toks) fun b o e => Heap.get?_push_of_some _ e
  rw [hw]
  refine wpAny_bind (wpAny_pure ?_)
  show wpAny (model X.prog X.w) X.A (do rule "assign.swapped-stores"; let items ← unpackItems (.ref s1.heap.objs.size) 2 none; assignInOrder [fun v => bindName X.env y v, fun v => bindName X.env x v] items.reverse; pure Flow.next) _ _ _
  refine wpAny_bind (wpAny_rule (wpAny_bind (unpackItems_tuple (items := #[u1, u2]) (I.ok.hd hc) (IsTup.new s1.heap _) fun h' hx' => ?_)))
  have I3 := I2.kept (h' := h') (t' := s1.toks) fun b o e => hx' b o (Nat.ne_of_lt (Heap.lt_size e)) e
  show wpAny _ _ (assignInOrder [fun v => bindName X.env y v, fun v => bindName X.env x v] [u2, u1] >>= fun _ => pure Flow.next) _ _ _
  refine wpAny_bind (assignInOrder_cons (wpAny_bindName (store_ok I3 hN hj (.inl hy) rw' (fun s2 I4 => ?_) (.inr hy))))
  refine assignInOrder_cons (wpAny_bindName (store_ok I4 hN hi (.inl hx) rv (fun s3 I5 => assignInOrder_nil (wpAny_pure ?_)) (.inr hx)))
  rw [List.set_comm _ _ (Ne.symm hij)] at I5
  exact ⟨_, H1, I5, q1⟩
/-- name op= e -/
def tAug (i : Nat) (te : TE) (ti : TIp) : TS := fun D σ H => ∃ x, σ[i]? = some (some x) ∧ te σ H fun y H1 => ti x y H1 fun z H2 => D.nx (σ.set i (some z)) H2
theorem ps_aug {i : Nat} {x : Str} {e : Expr} {te : TE} {op : Operator} {ti : TIp} {pos' : Pos} (hN : X.N.Nodup) (hi : X.N[i]? = some x) (hx : Loc X.env.scope x) (he : PE X e te) (ho : PIp X op ti) (hf : X.fn x = true ∨ X.env.scope.names.lookup x = some .local := by first | exact .inl rfl | exact .inr rfl | assumption) :
    PS X (.AugAssign (.Name x pos') op e pos) (tAug i te ti) := by
  intro pins s σ H D I h
  obtain ⟨v, e1, h⟩ := h
  obtain ⟨m, hn, hl⟩ := I.loc
  have vis : Vis X.env.scope x := by rcases hx with k | k; exact .inl k; exact .inr (.inl k)
  obtain ⟨u, r, l⟩ := hl i x v hi e1 vis
  refine wpAny_AugAssign_Name ?_
  have go : wpAny (model X.prog X.w) X.A (eval e X.env) (fun w s₂ => wpAny (model X.prog X.w) X.A (inplaceOp op u w) (fun r s₃ => wpAny (model X.prog X.w) X.A (storeName X.env x r) (fun _ => SP X pins D .next) X.xe s₃) X.xe s₂) X.xe s := by
    refine thn (he pins s σ H _ I h) fun w s1 ⟨y, H1, I1, r1, q1⟩ => ?_
    refine thn (ho pins s1 σ H1 v y u w _ I1 r r1 q1) fun z s2 ⟨zv, H2, I2, r2, q2⟩ => ?_
    exact store_ok I2 hN hi hx r2 (fun s3 I3 => ⟨_, H2, I3, q2⟩) hf
  rcases l with ⟨hk, hm⟩ | ⟨hk, c, hc, hcell⟩
  · exact wpAny_loadName_local I.ok.kind hk hn hm go
  · rcases hk with hk | hk
    · exact wpAny_loadName_cell I.ok.kind hk hc hcell go
    · rcases hx with k | k
      · have : X.env.scope.names.lookup x = some .free := hk
        rw [k] at this; cases this
      · have : X.env.scope.names.lookup x = some .free := hk
        rw [k] at this; cases this
/-- o[i] op= e -/
def tAugS (to ti te : TE) (tget : V → V → Hp → VK → Prop) (tip : TIp) (tset : TSet) : TS := fun D σ H => to σ H fun o H1 => ti σ H1 fun i H2 => tget o i H2 fun x H3 => te σ H3 fun y H4 => tip x y H4 fun z H5 => tset o i z H5 fun H6 => D.nx σ H6
/-- o[i], by values -/
def PGet (X : Cx) (t : V → V → Hp → VK → Prop) : Prop :=
  ∀ (pins : List (Addr × Obj)) (s : Shared) (σ : St) (H : Hp) (o i : V) (ov iv : Value) (Q : VK), Inv X pins σ H s → RelV o ov → RelV i iv → t o i H Q →
    wpAny (model X.prog X.w) X.A (getItem ov iv) (EP X pins σ Q) X.xe s
theorem ps_augS {o i e : Expr} {to ti te : TE} {tget : V → V → Hp → VK → Prop} {tip : TIp} {tset : TSet} {op : Operator} {tpos : Pos} (ho : PE X o to) (hi : PE X i ti) (hg : PGet X tget) (he : PE X e te) (hp : PIp X op tip) (hs : PSet X tset)
    (ha : ∀ ov iv new, augStore i ov iv new = (do holding [new, ov, iv] (setItem ov iv new); release [new, ov, iv] []; pure .next) := by intros; rfl) : PS X (.AugAssign (.Subscript o i tpos) op e pos) (tAugS to ti te tget tip tset) := by
  intro pins s σ H D I h
  refine wpAny_AugAssign_SubscriptAny (thn (ho pins s σ H _ I h) fun ov s1 ⟨x1, H1, I1, r1, q1⟩ => ?_) ha
  refine thn (hi pins s1 σ H1 _ I1 q1) fun iv s2 ⟨x2, H2, I2, r2, q2⟩ => ?_
  refine thn (hg pins s2 σ H2 x1 x2 ov iv _ I2 r1 r2 q2) fun old s3 ⟨x3, H3, I3, r3, q3⟩ => ?_
  refine thn (he pins s3 σ H3 _ I3 q3) fun v s4 ⟨x4, H4, I4, r4, q4⟩ => ?_
  refine thn (hp pins s4 σ H4 x3 x4 old v _ I4 r3 r4 q4) fun new s5 ⟨x5, H5, I5, r5, q5⟩ => ?_
  exact thn (hs pins s5 σ H5 x1 x2 x5 ov iv new _ I5 r1 r2 r5 q5) fun _ s6 ⟨H6, I6, q6⟩ => ⟨σ, H6, I6, q6⟩
/-- ints -/
def ipI (f : Int → Int → Int) : TIp := fun x y H Q => ∃ i j, x = .int i ∧ y = .int j ∧ Q (.int (f i j)) H
theorem ip_add : PIp X .Add (ipI fun i j => i + j) := by
  intro pins s σ H x y v u Q I r1 r2 h
  obtain ⟨i, j, e1, e2, q⟩ := h
  subst e1; subst e2
  obtain ⟨t, rfl⟩ := r1
  obtain ⟨t', rfl⟩ := r2
  exact iadd_int ⟨.int _, H, I.tok _, ⟨_, rfl⟩, q⟩
theorem ip_sub : PIp X .Sub (ipI fun i j => i - j) := by
  intro pins s σ H x y v u Q I r1 r2 h
  obtain ⟨i, j, e1, e2, q⟩ := h
  subst e1; subst e2
  obtain ⟨t, rfl⟩ := r1
  obtain ⟨t', rfl⟩ := r2
  exact isub_int ⟨.int _, H, I.tok _, ⟨_, rfl⟩, q⟩
end

/-! ### while -/
section
variable {X : Cx} {pos : Pos}
/-- the invariant W with its measure -/
def tWhile (c : TT) (tb : TS) : TS := fun D σ H => ∃ W : Nat → St → Hp → Prop, (∃ m, W m σ H) ∧ ∀ m σ H, W m σ H →
  c σ H fun b H1 => if b = true then ∃ N : St → Hp → Prop, (∀ σ' H', N σ' H' → ∃ m', m' < m ∧ W m' σ' H') ∧ tb { D with nx := N, ct := N, bk := D.nx } σ H1 else D.nx σ H1
theorem ps_while {c : Expr} {body : List Stmt} {tc : TT} {tb : TS} (hp : PassesOwn (model X.prog X.w) X.A X.env X.xe) (hc : PT X c tc) (hb : PSs X body tb) : PS X (.While c body [] pos) (tWhile tc tb) := by
  intro pins s σ H D I h
  obtain ⟨W, ⟨m0, w0⟩, turn⟩ := h
  refine wpAny_While (codeAny_whileLoop (fun n s' => ∃ σ' H', Inv X pins σ' H' s' ∧ W n σ' H') ?_ m0 ⟨σ, H, I, w0⟩)
  rintro n s1 ⟨σ1, H1, I1, w1⟩
  refine wpAny_passesOwn hp (thn (hc pins s1 σ1 H1 _ I1 (turn n σ1 H1 w1)) fun b s2 ⟨H2, I2, q2⟩ => ?_)
  cases b with
  | true =>
    obtain ⟨N, hN, q2⟩ := q2
    rw [if_pos rfl]
    refine wpAny_passesOwn hp (thn (hb pins s2 σ1 H2 _ I2 q2) fun f s3 q3 => ?_)
    cases f with
    | next =>
      obtain ⟨σ3, H3, I3, n3⟩ := q3
      obtain ⟨m', hm, w3⟩ := hN σ3 H3 n3
      exact ⟨m', hm, σ3, H3, I3, w3⟩
    | cont =>
      obtain ⟨σ3, H3, I3, n3⟩ := q3
      obtain ⟨m', hm, w3⟩ := hN σ3 H3 n3
      exact ⟨m', hm, σ3, H3, I3, w3⟩
    | brk => exact q3
    | ret v => exact q3
  | false =>
    rw [if_neg Bool.false_ne_true]
    exact wpAny_execs_nil ⟨σ1, H2, I2, q2⟩
end

/-! ### what a loop or a comprehension walks -/
/-- at turn i: it yields x (the heap may grow), or it stops -/
structure It where
  go : Nat → Hp → Prop
  yld : Nat → Hp → V → Hp → Prop
  stop : Nat → Hp → Prop
/-- the iterator's own objects may turn: they are not the frame's, not pinned, younger than the entry (or a comprehension's own) -/
def FpOk (X : Cx) (pins : List (Addr × Obj)) (H : Hp) (b : Addr) : Prop :=
  H b = none ∧ b ≠ X.env.locals ∧ b ∉ X.fs ∧ (b ∈ X.ex ∨ X.s₀.heap.objs.size ≤ b) ∧ (∀ x c, X.env.cells.lookup x = some c → c ≠ b) ∧ ∀ p ∈ X.pn ++ pins, p.1 ≠ b
theorem Inv.fpOk {X : Cx} {pins : List (Addr × Obj)} {σ : St} {H H' : Hp} {s : Shared} {b : Addr} (I : Inv X pins σ H s) (hb : s.heap.objs.size ≤ b) (hn : H' b = none) : FpOk X pins H' b := by
  refine ⟨hn, Nat.ne_of_gt (Nat.lt_of_lt_of_le I.lt hb), I.nofs hb, .inr (Nat.le_trans I.sz hb), fun x c e z => ?_, fun p hp z => ?_⟩
  · obtain ⟨v, q⟩ := I.cell x c e
    exact absurd (Nat.lt_of_lt_of_le q.lt (by rw [z]; exact hb)) (Nat.lt_irrefl _)
  · exact absurd (Nat.lt_of_lt_of_le (Heap.lt_size (I.pin p hp).1) (by rw [z]; exact hb)) (Nat.lt_irrefl _)
structure Turn (P : Program) (w : World) (K : PySem.W.Frag) (tg : Expr) (J : It) (fp : List Addr) (it : Addr) (tn : Nat → Heap → Prop) : Prop where
  mem : it ∈ fp
  obj : ∀ i h, tn i h → ∀ b ∈ fp, ∃ o, h.get? b = some o ∧ ∀ v, o.data ≠ .cell v
  keep : ∀ i h h', tn i h → (∀ b ∈ fp, ∀ o, h.get? b = some o → h'.get? b = some o) → tn i h'
  item : ∀ (X : Cx), X.prog = P → X.w = w → X.K = K → X.calm = true → ∀ (i : Nat) (pins : List (Addr × Obj)) (s : Shared) (σ : St) (H : Hp) (E : Value → Shared → Prop), Inv X pins σ H s → (∀ b ∈ fp, FpOk X pins H b) → tn i s.heap → J.go i H →
    wpAny (model P w) X.A (pyNext (.ref it)) (fun r s1 => ∃ u, r = some u ∧
      wpAny (model P w) X.A (letOwnedTupleGo tg (.ref it) u) (fun _ s2 => ∃ x H', Inv X pins σ H' s2 ∧ RelV x u ∧ J.yld i H x H' ∧ tn (i + 1) s2.heap ∧ ∀ b ∈ fp, H' b = none) E s1) E s
  done : ∀ (X : Cx), X.prog = P → X.w = w → X.K = K → X.calm = true → ∀ (i : Nat) (pins : List (Addr × Obj)) (s : Shared) (σ : St) (H : Hp) (E : Value → Shared → Prop), Inv X pins σ H s → (∀ b ∈ fp, FpOk X pins H b) → tn i s.heap → J.stop i H →
    wpAny (model P w) X.A (pyNext (.ref it)) (fun r s1 => r = none ∧ Inv X pins σ H s1) E s
  self : ∀ (A : Around) (i : Nat) (s : Shared) (Q : Value → Shared → Prop) (E : Value → Shared → Prop), tn i s.heap → Q (.ref it) s → wpAny (model P w) A (pyIter (.ref it)) Q E s
abbrev TI := St → Hp → (It → Hp → Prop) → Prop
/-- an iterator has come -/
def PIE (X : Cx) (pins : List (Addr × Obj)) (σ : St) (tg : Expr) (R : It → Hp → Prop) (itv : Value) (s2 : Shared) : Prop :=
  ∃ (it : Addr) (fp : List Addr) (tn : Nat → Heap → Prop) (J : It) (H' : Hp), itv = .ref it ∧ Inv X pins σ H' s2 ∧ Turn X.prog X.w X.K tg J fp it tn ∧ tn 0 s2.heap ∧ (∀ b ∈ fp, FpOk X pins H' b) ∧ R J H'
def PI (X : Cx) (tg iter : Expr) (wi : TI) : Prop :=
  ∀ (pins : List (Addr × Obj)) (s : Shared) (σ : St) (H : Hp) (R : It → Hp → Prop), Inv X pins σ H s → wi σ H R →
    wpAny (model X.prog X.w) X.A (eval iter X.env) (fun v s1 => wpAny (model X.prog X.w) X.A (pyIter v) (PIE X pins σ tg R) X.xe s1) X.xe s

/-- the step ahead of the store is nothing for an iterator that keeps no tuple -/
theorem go_of {M : Model} {A : Around} {E : Value → Shared → Prop} {s : Shared} {tg : Expr} {it : Addr} {u : Value} {o : Obj} {n : String} {vs : Array Value} {Q : Unit → Shared → Prop} (ho : s.heap.get? it = some o) (hc : o.cls = .type n) (hd : o.data = .fields vs)
    (hn : ["enumerate", "zip", "dict_itemiterator", "dict_reverseitemiterator", "odict_iterator", "itertools.zip_longest", "itertools.pairwise"].contains n = false) (hQ : Q () s) : wpAny M A (letOwnedTupleGo tg (.ref it) u) Q E s := by
  unfold letOwnedTupleGo
  cases tg <;> first
    | exact wpAny_pure hQ
    | (cases u <;> first
        | exact wpAny_pure hQ
        | (refine wpAny_bind (wpAny_load ho ?_)
           rw [hc, hd]
           show wpAny M A (if (["enumerate", "zip", "dict_itemiterator", "dict_reverseitemiterator", "odict_iterator", "itertools.zip_longest", "itertools.pairwise"].contains n && vs[0]? == some (rawInt _)) = true then _ else _) Q E s
           rw [if_neg (by intro h; rw [hn, Bool.false_and] at h; cases h)]
           exact wpAny_pure hQ))

/-- the list at a, as it stands at each turn (a loop may append to it) -/
def Itl (K : PySem.W.Frag) (a : Addr) : It :=
  ⟨fun i H => ∃ xs x, SqL K H a xs ∧ xs[i]? = some x, fun i H x H' => H' = H ∧ ∀ xs, SqL K H a xs → xs[i]? = some x, fun i H => ∃ xs, SqL K H a xs ∧ xs.length ≤ i⟩
def Itt (K : PySem.W.Frag) (a : Addr) : It :=
  ⟨fun i H => ∃ xs x, SqT K H a xs ∧ xs[i]? = some x, fun i H x H' => H' = H ∧ ∀ xs, SqT K H a xs → xs[i]? = some x, fun i H => ∃ xs, SqT K H a xs ∧ xs.length ≤ i⟩
/-- lo, lo + 1, .. (n of them) -/
def Itr (lo : Int) (n : Nat) : It := ⟨fun i _ => i < n, fun i H x H' => H' = H ∧ x = .int (lo + i), fun i _ => n ≤ i⟩
theorem turn_list {P : Program} {w : World} {K : PySem.W.Frag} {tg : Expr} (a it : Addr) : Turn P w K tg (Itl K a) [it] it (fun i h => h.IsListIter it a i) where
  mem := by simp
  obj := fun i h st b hb => by
    have e : b = it := by simpa using hb
    subst e
    obtain ⟨o, e, c, d⟩ := st
    exact ⟨o, e, fun v z => by rw [d] at z; cases z⟩
  keep := fun i h h' st k => st.at fun o e => k it (by simp) o e
  item := by
    intro X hP hw hK hc i pins s σ H E I hf st hg
    subst hP hw hK
    obtain ⟨xs, x, hq, hx⟩ := hg
    obtain ⟨its, rv, p, hz⟩ := I.list hq
    obtain ⟨u, hu, ru⟩ := rv.get hx
    obtain ⟨f0, f1, f2, f3, f4, f5⟩ := hf it (by simp)
    refine wpAny_pyNext_list_item st p.isList (x := u) (by simpa using hu) fun h' st' sb => ?_
    have I1 : Inv X pins σ H { s with heap := h' } := I.turned (t' := s.toks) (fun b o hb e => (sb.2 b hb).trans e) f0 f1 f3 f4 f5
    obtain ⟨o, e, c, d⟩ := id st'
    exact ⟨u, rfl, go_of (s := { s with heap := h' }) e c d (by decide) ⟨x, H, I1, ru, ⟨rfl, fun ys hy => by rw [I.list_inj hy hq]; exact hx⟩, st', fun b hb => (hf b hb).1⟩⟩
  done := by
    intro X hP hw hK hc i pins s σ H E I hf st hg
    subst hP hw hK
    obtain ⟨xs, hq, hx⟩ := hg
    obtain ⟨its, rv, p, hz⟩ := I.list hq
    obtain ⟨f0, f1, f2, f3, f4, f5⟩ := hf it (by simp)
    have hl := rv.length
    exact wpAny_pyNext_list_end (I.ok.hd hc) st p.isList (by simp; omega) fun h' eb => ⟨rfl, I.turned (t' := s.toks) (fun b o hb e => eb b o hb e) f0 f1 f3 f4 f5⟩
  self := fun _ _ _ _ _ st h => wpAny_pyIter_listiter st h
theorem turn_tuple {P : Program} {w : World} {K : PySem.W.Frag} {tg : Expr} (a it : Addr) : Turn P w K tg (Itt K a) [it] it (fun i h => h.IsTupleIter it a i) where
  mem := by simp
  obj := fun i h st b hb => by
    have e : b = it := by simpa using hb
    subst e
    obtain ⟨o, e, c, d⟩ := st
    exact ⟨o, e, fun v z => by rw [d] at z; cases z⟩
  keep := fun i h h' st k => st.at fun o e => k it (by simp) o e
  item := by
    intro X hP hw hK hc i pins s σ H E I hf st hg
    subst hP hw hK
    obtain ⟨xs, x, hq, hx⟩ := hg
    obtain ⟨its, rv, p, hz⟩ := I.tuple hq
    obtain ⟨u, hu, ru⟩ := rv.get hx
    obtain ⟨f0, f1, f2, f3, f4, f5⟩ := hf it (by simp)
    refine wpAny_pyNext_tuple_item st (show s.heap.IsTuple a its.toArray from p) (x := u) (by simpa using hu) fun h' st' sb => ?_
    have I1 : Inv X pins σ H { s with heap := h' } := I.turned (t' := s.toks) (fun b o hb e => (sb.2 b hb).trans e) f0 f1 f3 f4 f5
    obtain ⟨o, e, c, d⟩ := id st'
    exact ⟨u, rfl, go_of (s := { s with heap := h' }) e c d (by decide) ⟨x, H, I1, ru, ⟨rfl, fun ys hy => by rw [I.tuple_inj hy hq]; exact hx⟩, st', fun b hb => (hf b hb).1⟩⟩
  done := by
    intro X hP hw hK hc i pins s σ H E I hf st hg
    subst hP hw hK
    obtain ⟨xs, hq, hx⟩ := hg
    obtain ⟨its, rv, p, hz⟩ := I.tuple hq
    obtain ⟨f0, f1, f2, f3, f4, f5⟩ := hf it (by simp)
    have hl := rv.length
    exact wpAny_pyNext_tuple_end (I.ok.hd hc) st (show s.heap.IsTuple a its.toArray from p) (by simp; omega) fun h' eb => ⟨rfl, I.turned (t' := s.toks) (fun b o hb e => eb b o hb e) f0 f1 f3 f4 f5⟩
  self := fun _ _ _ _ _ st h => wpAny_pyIter_tupleiter st h
theorem turn_range {P : Program} {w : World} {K : PySem.W.Frag} {tg : Expr} (it : Addr) (lo : Int) (n : Nat) : Turn P w K tg (Itr lo n) [it] it (fun i h => IsRangeIter h it (lo + (i : Nat) * 1) ((n : Int) - (i : Nat)) 1) where
  mem := by simp
  obj := fun i h st b hb => by
    have e : b = it := by simpa using hb
    subst e
    exact ⟨_, st, fun v z => by
      have z' : Data.fields _ = Data.cell v := z
      cases z'⟩
  keep := fun i h h' st k => k it (by simp) _ st
  item := by
    intro X hP hw hK hc i pins s σ H E I hf st hg
    subst hP hw hK
    obtain ⟨f0, f1, f2, f3, f4, f5⟩ := hf it (by simp)
    have W := Walks.range (prog := X.prog) (w := X.w) (I.ok.hd hc) it lo 1 n
    refine W.item i s _ _ hg st fun v h' tk hv st' kk => ?_
    obtain ⟨t, rfl⟩ := hv
    have I1 : Inv X pins σ H { s with heap := h', toks := tk } := I.turned (fun b o hb e => kk b o (by simpa using hb) e) f0 f1 f3 f4 f5
    refine ⟨_, rfl, go_of (s := { s with heap := h', toks := tk }) (n := "range_iterator") st' rfl rfl (by decide) ⟨.int (lo + i), H, I1, ⟨t, ?_⟩, ⟨rfl, rfl⟩, st', fun b hb => (hf b hb).1⟩⟩
    rw [Int.mul_one]
  done := by
    intro X hP hw hK hc i pins s σ H E I hf st hg
    subst hP hw hK
    obtain ⟨f0, f1, f2, f3, f4, f5⟩ := hf it (by simp)
    exact wpAny_pyNext_range_end (I.ok.hd hc) st (by have : n ≤ i := hg; omega) fun h' eb => ⟨rfl, I.turned (t' := s.toks) (fun b o hb e => eb b o hb e) f0 f1 f3 f4 f5⟩
  self := fun _ _ _ _ _ st h => wpAny_pyIter_rangeiter st h
end L2

namespace L2
open PySem PySem.Spec PyProof.Rows
section
variable {X : Cx} {tg : Expr}
def iList (K : PySem.W.Frag) (tl : TE) : TI := fun σ H R => tl σ H fun x H1 => ∃ a, x = .ref a ∧ (∃ xs, SqL K H1 a xs) ∧ R (Itl K a) H1
def iTup (K : PySem.W.Frag) (tl : TE) : TI := fun σ H R => tl σ H fun x H1 => ∃ a, x = .ref a ∧ (∃ xs, SqT K H1 a xs) ∧ R (Itt K a) H1
theorem pi_list {l : Expr} {tl : TE} (hl : PE X l tl) : PI X tg l (iList X.K tl) := by
  intro pins s σ H R I h
  refine thn (hl pins s σ H _ I h) fun v s1 ⟨x, H1, I1, r1, q1⟩ => ?_
  obtain ⟨a, e, ⟨xs, hq⟩, q⟩ := q1
  subst e
  cases r1
  obtain ⟨its, rv, p, hz⟩ := I1.list hq
  refine wpAny_pyIter_list p.isList ?_
  refine ⟨s1.heap.objs.size, [s1.heap.objs.size], _, _, H1, rfl, I1.kept (t' := s1.toks) fun b o e => Heap.get?_push_of_some _ e, turn_list a _, ⟨_, Heap.get?_push_size _ rfl, rfl, rfl⟩, fun b hb => ?_, q⟩
  have e : b = s1.heap.objs.size := by simpa using hb
  subst e
  exact I1.fpOk (Nat.le_refl _) (I1.hok.fresh (Nat.le_refl _))
theorem pi_tup {l : Expr} {tl : TE} (hl : PE X l tl) : PI X tg l (iTup X.K tl) := by
  intro pins s σ H R I h
  refine thn (hl pins s σ H _ I h) fun v s1 ⟨x, H1, I1, r1, q1⟩ => ?_
  obtain ⟨a, e, ⟨xs, hq⟩, q⟩ := q1
  subst e
  cases r1
  obtain ⟨its, rv, p, hz⟩ := I1.tuple hq
  refine wpAny_pyIter_tuple (show s1.heap.IsTuple a its.toArray from p) ?_
  refine ⟨s1.heap.objs.size, [s1.heap.objs.size], _, _, H1, rfl, I1.kept (t' := s1.toks) fun b o e => Heap.get?_push_of_some _ e, turn_tuple a _, ⟨_, Heap.get?_push_size _ rfl, rfl, rfl⟩, fun b hb => ?_, q⟩
  have e : b = s1.heap.objs.size := by simpa using hb
  subst e
  exact I1.fpOk (Nat.le_refl _) (I1.hok.fresh (Nat.le_refl _))
/-- a range object just made, walked -/
theorem range_it {pins : List (Addr × Obj)} {σ : St} {H : Hp} {s : Shared} {R : It → Hp → Prop} {E : Value → Shared → Prop} {lo hi : Int} {t u v : Tok} {tk : Nat} (I : Inv X pins σ H s) (h1 : -(2 ^ 62) ≤ lo) (h2 : lo < 2 ^ 62) (h3 : -(2 ^ 62) ≤ hi) (h4 : hi < 2 ^ 62)
    (q : R (Itr lo (hi - lo).toNat) H) : wpAny (model X.prog X.w) X.A (pyIter (.ref s.heap.objs.size)) (PIE X pins σ tg R) E { s with heap := s.heap.push { cls := .type "range", data := .fields #[.int lo t, .int hi u, .int 1 v] }, toks := tk } := by
  refine wpAny_pyIter_range (IsRange.new ..) (small_one h1 h2 h3 h4) ?_
  have I1 : Inv X pins σ H { s with heap := s.heap.push { cls := .type "range", data := .fields #[.int lo t, .int hi u, .int 1 v] }, toks := tk } := I.kept fun b o e => Heap.get?_push_of_some _ e
  refine ⟨(s.heap.push { cls := .type "range", data := .fields #[.int lo t, .int hi u, .int 1 v] }).objs.size, [(s.heap.push { cls := .type "range", data := .fields #[.int lo t, .int hi u, .int 1 v] }).objs.size], _, _, H, rfl,
    I1.kept (t' := tk) fun b o e => Heap.get?_push_of_some _ e, turn_range _ lo (hi - lo).toNat, ?_, fun b hb => ?_, q⟩
  · have e1 : lo + ((0 : Nat) : Int) * 1 = lo := by simp
    have e2 : (((hi - lo).toNat : Nat) : Int) - ((0 : Nat) : Int) = Builtin.Range.rangeSize lo hi 1 := by rw [rangeSize_one]; split <;> omega
    show IsRangeIter _ _ (lo + ((0 : Nat) : Int) * 1) ((((hi - lo).toNat : Nat) : Int) - ((0 : Nat) : Int)) 1
    rw [e1, e2]
    exact Heap.get?_push_size _ rfl
  · have e : b = (s.heap.push { cls := .type "range", data := .fields #[.int lo t, .int hi u, .int 1 v] }).objs.size := by simpa using hb
    subst e
    exact I1.fpOk (Nat.le_refl _) (I1.hok.fresh (Nat.le_refl _))
def iRng1 (ta : TA) : TI := fun σ H R => ta σ H fun vs H1 => ∃ j : Int, vs = [.int j] ∧ -(2 ^ 62) ≤ j ∧ j < 2 ^ 62 ∧ R (Itr 0 j.toNat) H1
def iRng2 (ta : TA) : TI := fun σ H R => ta σ H fun vs H1 => ∃ i j : Int, vs = [.int i, .int j] ∧ (-(2 ^ 62) ≤ i ∧ i < 2 ^ 62 ∧ -(2 ^ 62) ≤ j ∧ j < 2 ^ 62) ∧ R (Itr i (j - i).toNat) H1
theorem pi_range1 {a : Expr} {ta : TA} {p pos : Pos} (hg : Gl X "range") (hm : X.mg "range" = none) (ha : PA X [a] ta) (hs : starEach [a] X.env = [(false, eval a X.env)] := by rfl) : PI X tg (.Call (.Name "range" p) [a] [] pos) (iRng1 ta) := by
  intro pins s σ H R I h
  refine Call_ (ld_blt I hg hm boot_range (PyProof.Rows.callWith_type1 (thn (ha pos pins s σ H _ I h) fun us s1 ⟨vs, H1, I1, r1, q1⟩ => ?_) hs rfl))
  obtain ⟨j, e, q1, q2, q⟩ := q1
  subst e
  cases r1 with
  | cons r rr =>
    cases rr
    obtain ⟨t, rfl⟩ := r
    exact call_range_1 (range_it I1 (by omega) (by omega) q1 q2 (by simpa using q))
theorem pi_range2 {a b : Expr} {ta : TA} {p pos : Pos} (hg : Gl X "range") (hm : X.mg "range" = none) (ha : PA X [a, b] ta) (hs : starEach [a, b] X.env = [(false, eval a X.env), (false, eval b X.env)] := by rfl) (hs2 : starEach [b] X.env = [(false, eval b X.env)] := by rfl) :
    PI X tg (.Call (.Name "range" p) [a, b] [] pos) (iRng2 ta) := by
  intro pins s σ H R I h
  refine Call_ (ld_blt I hg hm boot_range (PyProof.Rows.callWith_type1 (thn (ha pos pins s σ H _ I h) fun us s1 ⟨vs, H1, I1, r1, q1⟩ => ?_) (by rw [hs, hs2]) (by rw [hs2]; rfl)))
  obtain ⟨i, j, e, ⟨q1, q2, q3, q4⟩, q⟩ := q1
  subst e
  cases r1 with
  | cons r rr =>
    cases rr with
    | cons r' rr =>
      cases rr
      obtain ⟨t, rfl⟩ := r
      obtain ⟨t', rfl⟩ := r'
      exact call_range_2 (range_it I1 q1 q2 q3 q4 q)

/-! ### for -/
/-- W: the invariant by the turn and a measure; N: what the body is to reach -/
def tFor (wi : TI) (g : TG) (tb : TS) : TS := fun D σ H => wi σ H fun J H1 => ∃ W : Nat → Nat → St → Hp → Prop, (∃ m, W 0 m σ H1) ∧ ∀ i m σ H, W i m σ H →
  (J.stop i H ∧ D.nx σ H) ∨ (J.go i H ∧ ∃ N : St → Hp → Prop, (∀ σ' H', N σ' H' → ∃ m', m' < m ∧ W (i + 1) m' σ' H') ∧ ∀ x H', J.yld i H x H' → g x σ H' fun σ2 H2 => tb { D with nx := N, ct := N, bk := D.nx } σ2 H2)
/-- the records at fp as they stand -/
def pinsAt (fp : List Addr) (h : Heap) : List (Addr × Obj) := fp.filterMap fun b => (h.get? b).map fun o => (b, o)
theorem mem_pinsAt {fp : List Addr} {h : Heap} {b : Addr} {o : Obj} (hb : b ∈ fp) (e : h.get? b = some o) : (b, o) ∈ pinsAt fp h := List.mem_filterMap.mpr ⟨b, hb, by rw [e]; rfl⟩
theorem of_pinsAt {fp : List Addr} {h : Heap} {p : Addr × Obj} (hp : p ∈ pinsAt fp h) : p.1 ∈ fp ∧ h.get? p.1 = some p.2 := by
  obtain ⟨b, hb, e⟩ := List.mem_filterMap.mp hp
  cases q : h.get? b with
  | none => rw [q] at e; cases e
  | some o =>
    rw [q] at e
    have e' : (b, o) = p := Option.some.inj e
    subst e'
    exact ⟨hb, q⟩
theorem Inv.pinned {pins : List (Addr × Obj)} {σ : St} {H : Hp} {s : Shared} {fp : List Addr} (I : Inv X pins σ H s) (hf : ∀ b ∈ fp, FpOk X pins H b) (ho : ∀ b ∈ fp, ∃ o, s.heap.get? b = some o ∧ ∀ v, o.data ≠ .cell v) : Inv X (pins ++ pinsAt fp s.heap) σ H s :=
  I.pins_of fun p hp => (List.mem_append.mp hp).elim (fun z => I.pin p (List.mem_append_right _ z)) fun z => by
    obtain ⟨hb, e⟩ := of_pinsAt z
    obtain ⟨f0, f1, f2, _⟩ := hf p.1 hb
    obtain ⟨o, e', d⟩ := ho p.1 hb
    rw [e] at e'; cases e'
    exact ⟨e, f0, f1, f2, d⟩
theorem Inv.unpinned {pins pl : List (Addr × Obj)} {σ : St} {H : Hp} {s : Shared} (I : Inv X (pins ++ pl) σ H s) : Inv X pins σ H s := I.pins_of fun p hp => I.pin p (List.mem_append_right _ (List.mem_append_left _ hp))
theorem ps_for {iter : Expr} {body : List Stmt} {wi : TI} {g : TG} {tb : TS} {pos : Pos} (hp : PassesOwn (model X.prog X.w) X.A X.env X.xe) (hc : X.calm = true) (hi : PI X tg iter wi) (hg : PG X tg g) (hb : PSs X body tb)
    (hs : ∀ x, foldedSetIterable iter X.env x = pure x := by intro _; rfl) : PS X (.For tg iter body [] pos) (tFor wi g tb) := by
  intro pins s σ H D I h
  refine wpAny_For (thn (hi pins s σ H _ I h) fun v s1 h1 => thn h1 fun itv s2 h2 => ?_) hs
  obtain ⟨it, fp, tn, J, H2, e, I2, T, st2, f2, W, ⟨m0, w0⟩, turn⟩ := h2
  subst e
  -- what stays true of the iterator's objects through the loop
  have stat : ∀ {H' : Hp}, (∀ b ∈ fp, H' b = none) → ∀ b ∈ fp, FpOk X pins H' b := fun hn b hb => ⟨hn b hb, (f2 b hb).2⟩
  refine codeAny_forLoop_any (fun n s' => ∃ i σ' H', Inv X pins σ' H' s' ∧ tn i s'.heap ∧ (∀ b ∈ fp, H' b = none) ∧ W i n σ' H') ?_ m0 ⟨0, σ, H2, I2, st2, fun b hb => (f2 b hb).1, w0⟩
  rintro n s3 ⟨i, σ3, H3, I3, st3, fr3, w3⟩
  rcases turn i n σ3 H3 w3 with ⟨stop, qn⟩ | ⟨go, N, hN, step⟩
  · refine wpAny_passesOwn hp (thn (T.done X rfl rfl rfl hc i pins s3 σ3 H3 X.xe I3 (stat fr3) st3 stop) fun r s4 ⟨hr, I4⟩ => ?_)
    subst hr
    exact wpAny_execs_nil ⟨σ3, H3, I4, qn⟩
  · refine wpAny_passesOwn hp (thn (T.item X rfl rfl rfl hc i pins s3 σ3 H3 X.xe I3 (stat fr3) st3 go) fun r s4 ⟨u, hr, h4⟩ => ?_)
    subst hr
    refine wpAny_passesOwn hp (thn h4 fun _ s5 ⟨x, H5, I5, r5, y5, st5, fr5⟩ => ?_)
    have I5' := I5.pinned (stat fr5) (T.obj _ _ st5)
    refine wpAny_passesOwn hp (thn (hg _ s5 σ3 H5 x u _ I5' r5 (step x H5 y5)) fun _ s6 ⟨σ6, H6, I6, q6⟩ => ?_)
    refine wpAny_passesOwn hp (thn (hb _ s6 σ6 H6 _ I6 q6) fun f s7 q7 => ?_)
    have again : ∀ {σ7 : St} {H7 : Hp}, Inv X (pins ++ pinsAt fp s5.heap) σ7 H7 s7 → N σ7 H7 → ∃ m, m < n ∧ ∃ i σ' H', Inv X pins σ' H' s7 ∧ tn i s7.heap ∧ (∀ b ∈ fp, H' b = none) ∧ W i m σ' H' := fun {σ7 H7} I7 n7 => by
      obtain ⟨m', hm, w7⟩ := hN σ7 H7 n7
      refine ⟨m', hm, i + 1, σ7, H7, I7.unpinned, T.keep _ _ _ st5 fun b hb o e => (I7.pin (b, o) (List.mem_append_right _ (List.mem_append_right _ (mem_pinsAt hb e)))).1, fun b hb => ?_, w7⟩
      obtain ⟨o, e, d⟩ := T.obj _ _ st5 b hb
      exact (I7.pin (b, o) (List.mem_append_right _ (List.mem_append_right _ (mem_pinsAt hb e)))).2.1
    cases f with
    | next => obtain ⟨σ7, H7, I7, n7⟩ := q7; exact again I7 n7
    | cont => obtain ⟨σ7, H7, I7, n7⟩ := q7; exact again I7 n7
    | brk => obtain ⟨σ7, H7, I7, q7⟩ := q7; exact ⟨σ7, H7, I7.unpinned, q7⟩
    | ret v => obtain ⟨x7, σ7, H7, I7, r7, q7⟩ := q7; exact ⟨x7, σ7, H7, I7.unpinned, r7, q7⟩
end

/-! ### the forms one uses -/
/-- over a list that the body leaves as it is -/
theorem for_list {K : PySem.W.Frag} {a : Addr} {xs : List V} {g : TG} {tb : TS} {D : Ends} {σ : St} {H : Hp} (Pv : Nat → St → Hp → Prop) (h0 : Pv 0 σ H) (hl : ∀ i σ H, i ≤ xs.length → Pv i σ H → SqL K H a xs)
    (hs : ∀ i x σ H, xs[i]? = some x → Pv i σ H → g x σ H fun σ2 H2 => tb { D with nx := Pv (i + 1), ct := Pv (i + 1), bk := D.nx } σ2 H2) (hd : ∀ σ H, Pv xs.length σ H → D.nx σ H) :
    ∃ W : Nat → Nat → St → Hp → Prop, (∃ m, W 0 m σ H) ∧ ∀ i m σ H, W i m σ H →
      ((Itl K a).stop i H ∧ D.nx σ H) ∨ ((Itl K a).go i H ∧ ∃ N : St → Hp → Prop, (∀ σ' H', N σ' H' → ∃ m', m' < m ∧ W (i + 1) m' σ' H') ∧ ∀ x H', (Itl K a).yld i H x H' → g x σ H' fun σ2 H2 => tb { D with nx := N, ct := N, bk := D.nx } σ2 H2) := by
  refine ⟨fun i m σ H => m = xs.length - i ∧ i ≤ xs.length ∧ Pv i σ H, ⟨xs.length, by simp, Nat.zero_le _, h0⟩, ?_⟩
  rintro i m σ H ⟨rfl, hi, p⟩
  have q := hl i σ H hi p
  by_cases hlt : i < xs.length
  · refine .inr ⟨⟨xs, xs[i], q, by simp [hlt]⟩, Pv (i + 1), fun σ' H' p' => ⟨xs.length - (i + 1), by omega, rfl, hlt, p'⟩, fun x H' y => ?_⟩
    obtain ⟨e, y⟩ := y
    subst e
    exact hs i x σ _ (y xs q) p
  · have e : i = xs.length := by omega
    subst e
    exact .inl ⟨⟨xs, q, Nat.le_refl _⟩, hd σ H p⟩
theorem for_tup {K : PySem.W.Frag} {a : Addr} {xs : List V} {g : TG} {tb : TS} {D : Ends} {σ : St} {H : Hp} (Pv : Nat → St → Hp → Prop) (h0 : Pv 0 σ H) (hl : ∀ i σ H, i ≤ xs.length → Pv i σ H → SqT K H a xs)
    (hs : ∀ i x σ H, xs[i]? = some x → Pv i σ H → g x σ H fun σ2 H2 => tb { D with nx := Pv (i + 1), ct := Pv (i + 1), bk := D.nx } σ2 H2) (hd : ∀ σ H, Pv xs.length σ H → D.nx σ H) :
    ∃ W : Nat → Nat → St → Hp → Prop, (∃ m, W 0 m σ H) ∧ ∀ i m σ H, W i m σ H →
      ((Itt K a).stop i H ∧ D.nx σ H) ∨ ((Itt K a).go i H ∧ ∃ N : St → Hp → Prop, (∀ σ' H', N σ' H' → ∃ m', m' < m ∧ W (i + 1) m' σ' H') ∧ ∀ x H', (Itt K a).yld i H x H' → g x σ H' fun σ2 H2 => tb { D with nx := N, ct := N, bk := D.nx } σ2 H2) := by
  refine ⟨fun i m σ H => m = xs.length - i ∧ i ≤ xs.length ∧ Pv i σ H, ⟨xs.length, by simp, Nat.zero_le _, h0⟩, ?_⟩
  rintro i m σ H ⟨rfl, hi, p⟩
  have q := hl i σ H hi p
  by_cases hlt : i < xs.length
  · refine .inr ⟨⟨xs, xs[i], q, by simp [hlt]⟩, Pv (i + 1), fun σ' H' p' => ⟨xs.length - (i + 1), by omega, rfl, hlt, p'⟩, fun x H' y => ?_⟩
    obtain ⟨e, y⟩ := y
    subst e
    exact hs i x σ _ (y xs q) p
  · have e : i = xs.length := by omega
    subst e
    exact .inl ⟨⟨xs, q, Nat.le_refl _⟩, hd σ H p⟩
theorem for_range {lo : Int} {n : Nat} {g : TG} {tb : TS} {D : Ends} {σ : St} {H : Hp} (Pv : Nat → St → Hp → Prop) (h0 : Pv 0 σ H)
    (hs : ∀ i σ H, i < n → Pv i σ H → g (.int (lo + i)) σ H fun σ2 H2 => tb { D with nx := Pv (i + 1), ct := Pv (i + 1), bk := D.nx } σ2 H2) (hd : ∀ σ H, Pv n σ H → D.nx σ H) :
    ∃ W : Nat → Nat → St → Hp → Prop, (∃ m, W 0 m σ H) ∧ ∀ i m σ H, W i m σ H →
      ((Itr lo n).stop i H ∧ D.nx σ H) ∨ ((Itr lo n).go i H ∧ ∃ N : St → Hp → Prop, (∀ σ' H', N σ' H' → ∃ m', m' < m ∧ W (i + 1) m' σ' H') ∧ ∀ x H', (Itr lo n).yld i H x H' → g x σ H' fun σ2 H2 => tb { D with nx := N, ct := N, bk := D.nx } σ2 H2) := by
  refine ⟨fun i m σ H => m = n - i ∧ i ≤ n ∧ Pv i σ H, ⟨n, by simp, Nat.zero_le _, h0⟩, ?_⟩
  rintro i m σ H ⟨rfl, hi, p⟩
  by_cases hlt : i < n
  · refine .inr ⟨hlt, Pv (i + 1), fun σ' H' p' => ⟨n - (i + 1), by omega, rfl, hlt, p'⟩, fun x H' y => ?_⟩
    obtain ⟨e, y⟩ := y
    subst e y
    exact hs i σ _ hlt p
  · have e : i = n := by omega
    subst e
    exact .inl ⟨Nat.le_refl _, hd σ H p⟩
/-- while, by a word and a measure of the state -/
theorem while_by {c : TT} {tb : TS} {D : Ends} {σ : St} {H : Hp} (Pv : St → Hp → Prop) (μ : St → Hp → Nat) (h0 : Pv σ H)
    (hs : ∀ σ H, Pv σ H → c σ H fun b H1 => if b = true then tb { D with nx := fun σ' H' => Pv σ' H' ∧ μ σ' H' < μ σ H, ct := fun σ' H' => Pv σ' H' ∧ μ σ' H' < μ σ H, bk := D.nx } σ H1 else D.nx σ H1)
    (mono : ∀ σ H Q Q', (∀ b H1, Q b H1 → Q' b H1) → c σ H Q → c σ H Q') : tWhile c tb D σ H := by
  refine ⟨fun m σ H => m = μ σ H ∧ Pv σ H, ⟨_, rfl, h0⟩, ?_⟩
  rintro m σ H ⟨rfl, p⟩
  refine mono σ H _ _ (fun b H1 q => ?_) (hs σ H p)
  cases b with
  | true => exact ⟨_, fun σ' H' ⟨p', l⟩ => ⟨_, l, rfl, p'⟩, q⟩
  | false => exact q
end L2

namespace L2
open PySem PySem.Spec PyProof.Rows

abbrev R2 := V → V → Hp → VK → Prop
/-- a two-place operation on values: f is binaryOp op, inplaceOp op or compareOp op -/
def OpR (X : Cx) (f : Value → Value → Sem Value) (r : R2) : Prop :=
  ∀ (pins : List (Addr × Obj)) (s : Shared) (σ : St) (H : Hp) (x y : V) (v u : Value) (Q : VK), Inv X pins σ H s → RelV x v → RelV y u → r x y H Q →
    wpAny (model X.prog X.w) X.A (f v u) (EP X pins σ Q) X.xe s
/-- a one-place operation -/
def UnR (X : Cx) (f : Value → Sem Value) (r : V → Hp → VK → Prop) : Prop :=
  ∀ (pins : List (Addr × Obj)) (s : Shared) (σ : St) (H : Hp) (x : V) (v : Value) (Q : VK), Inv X pins σ H s → RelV x v → r x H Q →
    wpAny (model X.prog X.w) X.A (f v) (EP X pins σ Q) X.xe s
/-- a call of a value that is known (a builtin, a type) with values -/
def CallR (X : Cx) (f : Value) (r : List V → Hp → VK → Prop) : Prop :=
  ∀ (pins : List (Addr × Obj)) (s : Shared) (σ : St) (H : Hp) (xs : List V) (us : List Value) (Q : VK), Inv X pins σ H s → Vals xs us → r xs H Q →
    wpAny (model X.prog X.w) X.A (call f us) (EP X pins σ Q) X.xe s
/-- a value's truth -/
def TruR (X : Cx) (r : V → Hp → (Bool → Hp → Prop) → Prop) : Prop :=
  ∀ (pins : List (Addr × Obj)) (s : Shared) (σ : St) (H : Hp) (x : V) (v : Value) (Q : Bool → Hp → Prop), Inv X pins σ H s → RelV x v → r x H Q →
    wpAny (model X.prog X.w) X.A (truthy v) (TP X pins σ Q) X.xe s

def tOp (r : R2) (ta tb : TE) : TE := fun σ H Q => ta σ H fun x H1 => tb σ H1 fun y H2 => r x y H2 Q
def tUn (r : V → Hp → VK → Prop) (ta : TE) : TE := fun σ H Q => ta σ H fun x H1 => r x H1 Q
/-- ints in, under C, and a value out -/
def rI (C : Int → Int → Prop) (g : Int → Int → V) : R2 := fun x y H Q => ∃ i j, x = .int i ∧ y = .int j ∧ C i j ∧ Q (g i j) H
def rI0 (g : Int → Int → V) : R2 := fun x y H Q => ∃ i j, x = .int i ∧ y = .int j ∧ Q (g i j) H
def rU (g : Int → V) : V → Hp → VK → Prop := fun x H Q => ∃ i, x = .int i ∧ Q (g i) H

section
variable {X : Cx} {a b c : Expr} {ta tb tc : TE} {pos : Pos}

theorem binT (ha : PE X a ta) (hb : PE X b tb) {pins : List (Addr × Obj)} {s : Shared} {σ : St} {H : Hp} {R : V → V → Hp → Prop} (I : Inv X pins σ H s)
    (h : ta σ H fun x H1 => tb σ H1 fun y H2 => R x y H2) {Q : Value → Shared → Prop} {f : Value → Value → Sem Value}
    (hf : ∀ v u s2 x y H2, Inv X pins σ H2 s2 → RelV x v → RelV y u → R x y H2 → wpAny (model X.prog X.w) X.A (f v u) Q X.xe s2) :
    wpAny (model X.prog X.w) X.A (eval a X.env) (fun v s₁ => wpAny (model X.prog X.w) X.A (eval b X.env) (fun u s₂ => wpAny (model X.prog X.w) X.A (f v u) Q X.xe s₂) X.xe s₁) X.xe s := by
  refine thn (ha pins s σ H _ I h) fun v s1 ⟨x, H1, I1, r1, q1⟩ => ?_
  refine thn (hb pins s1 σ H1 _ I1 q1) fun u s2 ⟨y, H2, I2, r2, q2⟩ => ?_
  exact hf v u s2 x y H2 I2 r1 r2 q2

theorem pe_op {op : Operator} {r : R2} (ho : OpR X (binaryOp op) r) (ha : PE X a ta) (hb : PE X b tb) : PE X (.BinOp a op b pos) (tOp r ta tb) := by
  intro pins s σ H Q I h
  exact wpAny_BinOp (binT ha hb I h fun v u s2 x y H2 I2 rx ry q => ho pins s2 σ H2 x y v u Q I2 rx ry q)
theorem pe_un {op : UnaryOp} {r : V → Hp → VK → Prop} (ho : UnR X (unaryOp op) r) (ha : PE X a ta) : PE X (.UnaryOp op a pos) (tUn r ta) := by
  intro pins s σ H Q I h
  exact UnaryOp_ (thn (ha pins s σ H _ I h) fun v s1 ⟨x, H1, I1, r1, q1⟩ => ho pins s1 σ H1 x v Q I1 r1 q1)
/-- a op= e at a name: the name's slot i -/
theorem augR {op : Operator} {r : R2} (ho : OpR X (inplaceOp op) r) {pins : List (Addr × Obj)} {s : Shared} {σ : St} {H : Hp} {x y : V} {v u : Value} {Q : VK} (I : Inv X pins σ H s)
    (rx : RelV x v) (ry : RelV y u) (q : r x y H Q) : wpAny (model X.prog X.w) X.A (inplaceOp op v u) (EP X pins σ Q) X.xe s := ho pins s σ H x y v u Q I rx ry q

/-! ### ints -/
theorem opI {f : Value → Value → Sem Value} {C : Int → Int → Prop} {g : Int → Int → Int}
    (rule : ∀ (i j : Int) (t u : Tok) (s : Shared) (Q : Value → Shared → Prop) (E : Value → Shared → Prop), C i j → Q (.int (g i j) s.toks) { s with toks := s.toks + 1 } → wpAny (model X.prog X.w) X.A (f (.int i t) (.int j u)) Q E s) :
    OpR X f (rI C fun i j => .int (g i j)) := by
  intro pins s σ H x y v u Q I rx ry h
  obtain ⟨i, j, rfl, rfl, hc, q⟩ := h
  obtain ⟨t, rfl⟩ := rx
  obtain ⟨t', rfl⟩ := ry
  exact rule i j t t' s _ _ hc ⟨.int (g i j), H, I.tok _, ⟨_, rfl⟩, q⟩
theorem opI0 {f : Value → Value → Sem Value} {g : Int → Int → Int}
    (rule : ∀ (i j : Int) (t u : Tok) (s : Shared) (Q : Value → Shared → Prop) (E : Value → Shared → Prop), Q (.int (g i j) s.toks) { s with toks := s.toks + 1 } → wpAny (model X.prog X.w) X.A (f (.int i t) (.int j u)) Q E s) :
    OpR X f (rI0 fun i j => .int (g i j)) := by
  intro pins s σ H x y v u Q I rx ry h
  obtain ⟨i, j, rfl, rfl, q⟩ := h
  obtain ⟨t, rfl⟩ := rx
  obtain ⟨t', rfl⟩ := ry
  exact rule i j t t' s _ _ ⟨.int (g i j), H, I.tok _, ⟨_, rfl⟩, q⟩
theorem opB0 {f : Value → Value → Sem Value} {g : Int → Int → Bool}
    (rule : ∀ (i j : Int) (t u : Tok) (s : Shared) (Q : Value → Shared → Prop) (E : Value → Shared → Prop), Q (.bool (g i j)) s → wpAny (model X.prog X.w) X.A (f (.int i t) (.int j u)) Q E s) :
    OpR X f (rI0 fun i j => .bl (g i j)) := by
  intro pins s σ H x y v u Q I rx ry h
  obtain ⟨i, j, rfl, rfl, q⟩ := h
  obtain ⟨t, rfl⟩ := rx
  obtain ⟨t', rfl⟩ := ry
  exact rule i j t t' s _ _ ⟨.bl (g i j), H, I, rfl, q⟩

def CDiv (i j : Int) : Prop := 0 < j ∧ j < 1073741824
def CDivN (i j : Int) : Prop := j ≠ 0 ∧ j.natAbs < 1073741824
def CPow (i j : Int) : Prop := 0 ≤ j ∧ j ≤ 1000000 ∧ i.natAbs < 2 ^ 64
def CMul (i j : Int) : Prop := (-(2 ^ 64) < i ∧ i < 2 ^ 64) ∨ (-(2 ^ 64) < j ∧ j < 2 ^ 64)
theorem CMul.ok {i j : Int} (h : CMul i j) : IntMulOk i j := by
  rcases h with ⟨h1, h2⟩ | ⟨h1, h2⟩
  · exact .of_left (intBits_le_64 h1 h2)
  · exact .of_right (intBits_le_64 h1 h2)
theorem two_pow_nn (k : Nat) : (0 : Int) ≤ 2 ^ k := by
  rw [two_pow_cast]
  exact Int.natCast_nonneg _

theorem op_add : OpR X (binaryOp .Add) (rI0 fun i j => .int (i + j)) := opI0 fun _ _ _ _ _ _ _ q => add_int q
theorem op_sub : OpR X (binaryOp .Sub) (rI0 fun i j => .int (i - j)) := opI0 fun _ _ _ _ _ _ _ q => sub_int q
theorem op_mul : OpR X (binaryOp .Mult) (rI CMul fun i j => .int (i * j)) := opI fun _ _ _ _ _ _ _ hc q => mul_int q hc.ok
/-- // by a positive divisor -/
theorem op_fdiv : OpR X (binaryOp .FloorDiv) (rI CDiv fun i j => .int (i / j)) := opI fun i j _ _ _ _ _ hc q => by
  have h1 : (0 : Int) < j := hc.1
  have h2 : j < 1073741824 := hc.2
  exact floordiv_int (by omega) (by rw [Int.fdiv_eq_ediv_of_nonneg i (by omega)]; exact q) (.inl (PyProof.noPylong_small (by omega)))
theorem op_fdivN : OpR X (binaryOp .FloorDiv) (rI CDivN fun i j => .int (i.fdiv j)) := opI fun _ _ _ _ _ _ _ hc q => floordiv_int hc.1 q (.inl (PyProof.noPylong_small hc.2))
/-- % by a positive divisor of any size -/
theorem op_mod : OpR X (binaryOp .Mod) (rI (fun _ j => 0 < j) fun i j => .int (i % j)) := opI fun i j _ _ _ _ _ hc q => by
  have h1 : (0 : Int) < j := hc
  exact mod_int' (by omega) (by rw [Int.fmod_eq_emod_of_nonneg i (by omega)]; exact q)
theorem op_modN : OpR X (binaryOp .Mod) (rI (fun _ j => j ≠ 0) fun i j => .int (i.fmod j)) := opI fun _ _ _ _ _ _ _ hc q => mod_int' hc q
theorem op_pow : OpR X (binaryOp .Pow) (rI CPow fun i j => .int (i ^ j.toNat)) := opI fun _ _ _ _ _ _ _ hc q => pow_int_small hc.1 hc.2.1 hc.2.2 q
theorem op_shl : OpR X (binaryOp .LShift) (rI CPow fun i j => .int (i * 2 ^ j.toNat)) := opI fun _ _ _ _ _ _ _ hc q => lshift_int_small hc.1 hc.2.1 hc.2.2 q
theorem op_shr : OpR X (binaryOp .RShift) (rI (fun _ j => 0 ≤ j) fun i j => .int (i / 2 ^ j.toNat)) := opI fun i j _ _ _ _ _ hc q =>
  rshift_int hc (by rw [Int.fdiv_eq_ediv_of_nonneg i (two_pow_nn _)]; exact q)
theorem op_and : OpR X (binaryOp .BitAnd) (rI0 fun i j => .int (Builtin.bitAnd i j)) := opI0 fun _ _ _ _ _ _ _ q => and_int q
theorem op_or : OpR X (binaryOp .BitOr) (rI0 fun i j => .int (Builtin.bitOr i j)) := opI0 fun _ _ _ _ _ _ _ q => or_int q
theorem op_xor : OpR X (binaryOp .BitXor) (rI0 fun i j => .int (Builtin.bitXor i j)) := opI0 fun _ _ _ _ _ _ _ q => xor_int q

theorem iop_add : OpR X (inplaceOp .Add) (rI0 fun i j => .int (i + j)) := opI0 fun _ _ _ _ _ _ _ q => iadd_int q
theorem iop_sub : OpR X (inplaceOp .Sub) (rI0 fun i j => .int (i - j)) := opI0 fun _ _ _ _ _ _ _ q => isub_int q
theorem iop_mul : OpR X (inplaceOp .Mult) (rI CMul fun i j => .int (i * j)) := opI fun _ _ _ _ _ _ _ hc q => imul_int q hc.ok
theorem iop_fdiv : OpR X (inplaceOp .FloorDiv) (rI CDiv fun i j => .int (i / j)) := opI fun i j _ _ _ _ _ hc q => by
  have h1 : (0 : Int) < j := hc.1
  have h2 : j < 1073741824 := hc.2
  exact ifloordiv_int (by omega) (by rw [Int.fdiv_eq_ediv_of_nonneg i (by omega)]; exact q) (.inl (PyProof.noPylong_small (by omega)))
theorem iop_mod : OpR X (inplaceOp .Mod) (rI (fun _ j => 0 < j) fun i j => .int (i % j)) := opI fun i j _ _ _ _ _ hc q => by
  have h1 : (0 : Int) < j := hc
  exact imod_int (by omega) (by rw [Int.fmod_eq_emod_of_nonneg i (by omega)]; exact q)
theorem iop_shl : OpR X (inplaceOp .LShift) (rI CPow fun i j => .int (i * 2 ^ j.toNat)) := opI fun _ _ _ _ _ _ _ hc q => ilshift_int_small hc.1 hc.2.1 hc.2.2 q
theorem iop_shr : OpR X (inplaceOp .RShift) (rI (fun _ j => 0 ≤ j) fun i j => .int (i / 2 ^ j.toNat)) := opI fun i j _ _ _ _ _ hc q =>
  irshift_int hc (by rw [Int.fdiv_eq_ediv_of_nonneg i (two_pow_nn _)]; exact q)
theorem iop_and : OpR X (inplaceOp .BitAnd) (rI0 fun i j => .int (Builtin.bitAnd i j)) := opI0 fun _ _ _ _ _ _ _ q => iand_int q
theorem iop_or : OpR X (inplaceOp .BitOr) (rI0 fun i j => .int (Builtin.bitOr i j)) := opI0 fun _ _ _ _ _ _ _ q => ior_int q
theorem iop_xor : OpR X (inplaceOp .BitXor) (rI0 fun i j => .int (Builtin.bitXor i j)) := opI0 fun _ _ _ _ _ _ _ q => ixor_int q

theorem unI {f : Value → Sem Value} {g : Int → Int}
    (rule : ∀ (i : Int) (t : Tok) (s : Shared) (Q : Value → Shared → Prop) (E : Value → Shared → Prop), Q (.int (g i) s.toks) { s with toks := s.toks + 1 } → wpAny (model X.prog X.w) X.A (f (.int i t)) Q E s) :
    UnR X f (rU fun i => .int (g i)) := by
  intro pins s σ H x v Q I rx h
  obtain ⟨i, rfl, q⟩ := h
  obtain ⟨t, rfl⟩ := rx
  exact rule i t s _ _ ⟨.int (g i), H, I.tok _, ⟨_, rfl⟩, q⟩
theorem un_neg : UnR X (unaryOp .USub) (rU fun i => .int (-i)) := unI fun _ _ _ _ _ q => neg_int q
theorem un_inv : UnR X (unaryOp .Invert) (rU fun i => .int (Builtin.bitNot i)) := unI fun _ _ _ _ _ q => invert_int q

/-! ### bools among ints: n += (a < b) -/
theorem op_add_ib : OpR X (binaryOp .Add) (fun x y H Q => ∃ i k, x = .int i ∧ y = .bl k ∧ Q (.int (i + b2i k)) H) := by
  intro pins s σ H x y v u Q I rx ry h
  obtain ⟨i, k, rfl, rfl, q⟩ := h
  obtain ⟨t, rfl⟩ := rx
  cases ry
  exact add_int_bool ⟨.int (i + b2i k), H, I.tok _, ⟨_, rfl⟩, q⟩
end

/-! ### comparisons -/
/-- the scalars that == tells apart as data does -/
def scal : V → V → Bool
  | .non, .non => true | .non, .int _ => true | .int _, .non => true | .non, .bl _ => true | .bl _, .non => true | .non, .str _ => true | .str _, .non => true
  | .int _, .int _ => true | .bl _, .bl _ => true | .str _, .str _ => true | .byt _, .byt _ => true
  | .int _, .str _ => true | .str _, .int _ => true | .bl _, .str _ => true | .str _, .bl _ => true
  | _, _ => false
def rEq : R2 := fun x y H Q => scal x y = true ∧ Q (.bl (decide (x = y))) H
def rNe : R2 := fun x y H Q => scal x y = true ∧ Q (.bl (!decide (x = y))) H

theorem dec_int {i j : Int} : decide (V.int i = V.int j) = (i == j) := by
  rw [Bool.eq_iff_iff]
  simp
theorem dec_bl {i j : Bool} : decide (V.bl i = V.bl j) = (i == j) := by
  rw [Bool.eq_iff_iff]
  simp
theorem dec_str {i j : Str} : decide (V.str i = V.str j) = (i == j) := by
  rw [Bool.eq_iff_iff]
  simp
theorem dec_byt {i j : Array UInt8} : decide (V.byt i = V.byt j) = (i.toList == j.toList) := by
  rw [Bool.eq_iff_iff]
  cases i
  cases j
  simp

section
variable {X : Cx} {a b c : Expr} {ta tb tc : TE} {pos : Pos}
theorem fin_bl {pins : List (Addr × Obj)} {σ : St} {H : Hp} {s : Shared} {Q : VK} {k k' : Bool} (I : Inv X pins σ H s) (q : Q (.bl k) H) (e : k = k') : EP X pins σ Q (.bool k') s := by
  subst e
  exact ⟨.bl k, H, I, rfl, q⟩
theorem op_eq : OpR X (compareOp .Eq) rEq := by
  intro pins s σ H x y v u Q I rx ry h
  obtain ⟨hs, q⟩ := h
  cases x with
  | non =>
    cases rx
    cases y with
    | non => cases ry; exact PySem.EqNone.eq_none_none (fin_bl I q (by simp))
    | bl j => cases ry; exact PySem.EqNone.eq_none_bool (fin_bl I q (by simp))
    | int j => obtain ⟨t', rfl⟩ := ry; exact PySem.EqNone.eq_none_int (fin_bl I q (by simp))
    | str j => obtain ⟨t', rfl⟩ := ry; exact PySem.EqNone.eq_none_str (fin_bl I q (by simp))
    | _ => exact absurd (show false = true from hs) Bool.false_ne_true
  | bl i =>
    cases rx
    cases y with
    | non => cases ry; exact PySem.EqNone.eq_bool_none (fin_bl I q (by simp))
    | bl j => cases ry; exact eq_bool (fin_bl I q dec_bl)
    | str j => obtain ⟨t', rfl⟩ := ry; exact PySem.EqMixed.eq_bool_str (fin_bl I q (by simp))
    | _ => exact absurd (show false = true from hs) Bool.false_ne_true
  | int i =>
    obtain ⟨t, rfl⟩ := rx
    cases y with
    | non => cases ry; exact PySem.EqNone.eq_int_none (fin_bl I q (by simp))
    | int j => obtain ⟨t', rfl⟩ := ry; exact eq_int (fin_bl I q dec_int)
    | str j => obtain ⟨t', rfl⟩ := ry; exact PySem.EqMixed.eq_int_str (fin_bl I q (by simp))
    | _ => exact absurd (show false = true from hs) Bool.false_ne_true
  | str i =>
    obtain ⟨t, rfl⟩ := rx
    cases y with
    | non => cases ry; exact PySem.EqNone.eq_str_none (fin_bl I q (by simp))
    | bl j => cases ry; exact PySem.EqMixed.eq_str_bool (fin_bl I q (by simp))
    | int j => obtain ⟨t', rfl⟩ := ry; exact PySem.EqMixed.eq_str_int (fin_bl I q (by simp))
    | str j => obtain ⟨t', rfl⟩ := ry; exact eq_str (fin_bl I q dec_str)
    | _ => exact absurd (show false = true from hs) Bool.false_ne_true
  | byt i =>
    obtain ⟨t, rfl⟩ := rx
    cases y with
    | byt j => obtain ⟨t', rfl⟩ := ry; exact PySem.W.eq_bytes (fin_bl I q dec_byt)
    | _ => exact absurd (show false = true from hs) Bool.false_ne_true
  | _ => cases y <;> exact absurd (show false = true from hs) Bool.false_ne_true
theorem op_ne : OpR X (compareOp .NotEq) rNe := by
  intro pins s σ H x y v u Q I rx ry h
  obtain ⟨hs, q⟩ := h
  cases x with
  | non =>
    cases rx
    cases y with
    | non => cases ry; exact PySem.EqNone.ne_none_none (fin_bl I q (by simp))
    | bl j => cases ry; exact PySem.EqNone.ne_none_bool (fin_bl I q (by simp))
    | int j => obtain ⟨t', rfl⟩ := ry; exact PySem.EqNone.ne_none_int (fin_bl I q (by simp))
    | str j => obtain ⟨t', rfl⟩ := ry; exact PySem.EqNone.ne_none_str (fin_bl I q (by simp))
    | _ => exact absurd (show false = true from hs) Bool.false_ne_true
  | bl i =>
    cases rx
    cases y with
    | non => cases ry; exact PySem.EqNone.ne_bool_none (fin_bl I q (by simp))
    | bl j => cases ry; exact ne_bool (fin_bl I q (congrArg not dec_bl))
    | str j => obtain ⟨t', rfl⟩ := ry; exact PySem.EqMixed.ne_bool_str (fin_bl I q (by simp))
    | _ => exact absurd (show false = true from hs) Bool.false_ne_true
  | int i =>
    obtain ⟨t, rfl⟩ := rx
    cases y with
    | non => cases ry; exact PySem.EqNone.ne_int_none (fin_bl I q (by simp))
    | int j => obtain ⟨t', rfl⟩ := ry; exact ne_int (fin_bl I q (congrArg not dec_int))
    | str j => obtain ⟨t', rfl⟩ := ry; exact PySem.EqMixed.ne_int_str (fin_bl I q (by simp))
    | _ => exact absurd (show false = true from hs) Bool.false_ne_true
  | str i =>
    obtain ⟨t, rfl⟩ := rx
    cases y with
    | non => cases ry; exact PySem.EqNone.ne_str_none (fin_bl I q (by simp))
    | bl j => cases ry; exact PySem.EqMixed.ne_str_bool (fin_bl I q (by simp))
    | int j => obtain ⟨t', rfl⟩ := ry; exact PySem.EqMixed.ne_str_int (fin_bl I q (by simp))
    | str j => obtain ⟨t', rfl⟩ := ry; exact ne_str (fin_bl I q (congrArg not dec_str))
    | _ => exact absurd (show false = true from hs) Bool.false_ne_true
  | byt i =>
    obtain ⟨t, rfl⟩ := rx
    cases y with
    | byt j => obtain ⟨t', rfl⟩ := ry; exact PySem.W.ne_bytes (fin_bl I q (congrArg not dec_byt))
    | _ => exact absurd (show false = true from hs) Bool.false_ne_true
  | _ => cases y <;> exact absurd (show false = true from hs) Bool.false_ne_true

theorem op_lt : OpR X (compareOp .Lt) (rI0 fun i j => .bl (decide (i < j))) := opB0 fun _ _ _ _ _ _ _ q => lt_int q
theorem op_le : OpR X (compareOp .LtE) (rI0 fun i j => .bl (decide (i ≤ j))) := opB0 fun _ _ _ _ _ _ _ q => le_int q
theorem op_gt : OpR X (compareOp .Gt) (rI0 fun i j => .bl (decide (j < i))) := opB0 fun _ _ _ _ _ _ _ q => gt_int q
theorem op_ge : OpR X (compareOp .GtE) (rI0 fun i j => .bl (decide (j ≤ i))) := opB0 fun _ _ _ _ _ _ _ q => ge_int q
theorem op_lt_str : OpR X (compareOp .Lt) (fun x y H Q => ∃ i j, x = .str i ∧ y = .str j ∧ Q (.bl (decide (i.cps.toList < j.cps.toList))) H) := by
  intro pins s σ H x y v u Q I rx ry h
  obtain ⟨i, j, rfl, rfl, q⟩ := h
  obtain ⟨t, rfl⟩ := rx
  obtain ⟨t', rfl⟩ := ry
  exact lt_str (fin_bl I q rfl)
/-- the one string within the other -/
theorem op_in_str : OpR X (compareOp .In) (fun x y H Q => ∃ i j, x = .str i ∧ y = .str j ∧ Q (.bl (!(Builtin.Str.occurrences j i 0 j.length 1).isEmpty)) H) := by
  intro pins s σ H x y v u Q I rx ry h
  obtain ⟨i, j, rfl, rfl, q⟩ := h
  obtain ⟨t, rfl⟩ := rx
  obtain ⟨t', rfl⟩ := ry
  exact in_str (fin_bl I q rfl)

/-- is None, is not None: the right side a value none -/
theorem op_isN : OpR X (compareOp .Is) (fun x y H Q => y = .non ∧ Q (.bl (decide (x = .non))) H) := by
  intro pins s σ H x y v u Q I rx ry h
  obtain ⟨rfl, q⟩ := h
  cases ry
  refine is_none_gen (fin_bl I q ?_)
  cases x <;> first
    | (cases rx; rfl)
    | (obtain ⟨t, rfl⟩ := rx; rfl)
theorem op_notN : OpR X (compareOp .IsNot) (fun x y H Q => y = .non ∧ Q (.bl (!decide (x = .non))) H) := by
  intro pins s σ H x y v u Q I rx ry h
  obtain ⟨rfl, q⟩ := h
  cases ry
  refine isnot_none_gen (fin_bl I q ?_)
  cases x <;> first
    | (cases rx; rfl)
    | (obtain ⟨t, rfl⟩ := rx; rfl)

theorem op_notin_str : OpR X (compareOp .NotIn) (fun x y H Q => ∃ i j, x = .str i ∧ y = .str j ∧ Q (.bl (!(!(Builtin.Str.occurrences j i 0 j.length 1).isEmpty))) H) := by
  intro pins s σ H x y v u Q I rx ry h
  obtain ⟨i, j, rfl, rfl, q⟩ := h
  obtain ⟨t, rfl⟩ := rx
  obtain ⟨t', rfl⟩ := ry
  exact notIn_str (fin_bl I q rfl)
/-- is, is not of two objects that are tracked lists or instances -/
def isObj : HO → Bool
  | .lst _ => true
  | .ins _ _ _ => true
  | _ => false
theorem obj_there {pins : List (Addr × Obj)} {s : Shared} {σ : St} {H : Hp} {a : Addr} {o : HO} (I : Inv X pins σ H s) (h : H a = some o) (p : isObj o = true) : ∃ ob, s.heap.get? a = some ob ∧ ob.cls ≠ .type "tuple" := by
  cases o with
  | lst xs =>
    obtain ⟨_, its, n, _, e⟩ : xs.length ≤ sizeLine ∧ ∃ (its : List Value) (n : Nat), Vals xs its ∧ s.heap.get? a = some { cls := .type "list", data := .seq its.toArray n } := I.hok a _ h
    exact ⟨_, e, (by show Value.type "list" ≠ .type "tuple"; decide +kernel)⟩
  | ins C dx fs =>
    have x := I.hok a _ h
    obtain ⟨_, _, _, e, _⟩ := x
    exact ⟨_, e, (by show Value.ref C ≠ .type "tuple"; exact fun z => by cases z)⟩
  | _ => exact absurd (show false = true from p) Bool.false_ne_true
theorem op_is_ref : OpR X (compareOp .Is) (fun x y H Q => ∃ a b oa ob, x = .ref a ∧ y = .ref b ∧ H a = some oa ∧ isObj oa = true ∧ H b = some ob ∧ isObj ob = true ∧ Q (.bl (decide (a = b))) H) := by
  intro pins s σ H x y v u Q I rx ry h
  obtain ⟨a, b, oa, ob, rfl, rfl, ha, pa, hb, pb, q⟩ := h
  cases rx
  cases ry
  obtain ⟨o1, e1, n1⟩ := obj_there I ha pa
  obtain ⟨o2, e2, _⟩ := obj_there I hb pb
  by_cases z : a = b
  · subst z
    exact wpAny_is_ref_self (fin_bl I q (by simp))
  · exact wpAny_is_ref_other z e1 e2 n1 (fin_bl I q (by simp [z]))
theorem op_isnot_ref : OpR X (compareOp .IsNot) (fun x y H Q => ∃ a b oa ob, x = .ref a ∧ y = .ref b ∧ H a = some oa ∧ isObj oa = true ∧ H b = some ob ∧ isObj ob = true ∧ Q (.bl (!decide (a = b))) H) := by
  intro pins s σ H x y v u Q I rx ry h
  obtain ⟨a, b, oa, ob, rfl, rfl, ha, pa, hb, pb, q⟩ := h
  cases rx
  cases ry
  obtain ⟨o1, e1, n1⟩ := obj_there I ha pa
  obtain ⟨o2, e2, _⟩ := obj_there I hb pb
  by_cases z : a = b
  · subst z
    exact wpAny_isNot_ref_self (fin_bl I q (by simp))
  · exact wpAny_isNot_ref_other z e1 e2 n1 (fin_bl I q (by simp [z]))

/-- two rules for one operation: by cases -/
theorem OpR.or {f : Value → Value → Sem Value} {r r' : R2} (h : OpR X f r) (h' : OpR X f r') : OpR X f (fun x y H Q => r x y H Q ∨ r' x y H Q) := by
  intro pins s σ H x y v u Q I rx ry q
  rcases q with q | q
  · exact h pins s σ H x y v u Q I rx ry q
  · exact h' pins s σ H x y v u Q I rx ry q

theorem nomark (b : Expr) {op : CmpOp} (h : op ≠ .In := by decide) (h2 : op ≠ .NotIn := by decide) : behindInMarks op b = false := by
  have e1 : (op == CmpOp.In) = false := by cases op <;> first | rfl | exact absurd rfl h
  have e2 : (op == CmpOp.NotIn) = false := by cases op <;> first | rfl | exact absurd rfl h2
  cases b <;> simp [behindInMarks, e1, e2]
/-- a comparison as a value; hm: nomark b, or (for in, not in) by with_unfolding_all rfl -/
theorem pe_cmpR {op : CmpOp} {r : R2} (ho : OpR X (compareOp op) r) (ha : PE X a ta) (hb : PE X b tb) (hm : behindInMarks op b = false) : PE X (.Compare a [op] [b] pos) (tOp r ta tb) := by
  intro pins s σ H Q I h
  exact wpAny_Compare1 (binT ha hb I h fun v u s2 x y H2 I2 rx ry q => ho pins s2 σ H2 x y v u Q I2 rx ry q) hm
/-- a reading of a value as a test -/
def tTest (t : TE) : TT := fun σ H Q => t σ H fun x H' => ∃ k, x = .bl k ∧ Q k H'
theorem pt_cmpR {op : CmpOp} {r : R2} (ho : OpR X (compareOp op) r) (ha : PE X a ta) (hb : PE X b tb) (hm : behindInMarks op b = false) : PT X (.Compare a [op] [b] pos) (tTest (tOp r ta tb)) := by
  intro pins s σ H Q I h
  refine wpAny_isTrue_Compare1 (thn (ha pins s σ H _ I h) fun v s1 ⟨x, H1, I1, r1, q1⟩ => thn (hb pins s1 σ H1 _ I1 q1) fun u s2 ⟨y, H2, I2, r2, q2⟩ =>
    thn (ho pins s2 σ H2 x y v u _ I2 r1 r2 q2) fun c s3 ⟨z, H3, I3, r3, k, e, q3⟩ => ?_) hm
  subst e
  cases r3
  exact wpAny_truthy_bool ⟨H3, I3, q3⟩
/-- a op1 b op2 c -/
def tChain (r r' : R2) (ta tb tc : TE) : TE := fun σ H Q => ta σ H fun x H1 => tb σ H1 fun y H2 => r x y H2 fun z H3 => ∃ k, z = .bl k ∧
  (if k = true then tc σ H3 fun w' H4 => r' y w' H4 Q else Q (.bl false) H3)
theorem pe_chain {op op' : CmpOp} {r r' : R2} (ho : OpR X (compareOp op) r) (ho' : OpR X (compareOp op') r') (ha : PE X a ta) (hb : PE X b tb) (hc : PE X c tc)
    (hm : lastMarks [op, op'] [b, c] = false := by with_unfolding_all rfl) : PE X (.Compare a [op, op'] [b, c] pos) (tChain r r' ta tb tc) := by
  intro pins s σ H Q I h
  refine Compare_chain (thn (ha pins s σ H _ I h) fun v s1 ⟨x, H1, I1, r1, q1⟩ => chain_link (thn (hb pins s1 σ H1 _ I1 q1) fun u s2 ⟨y, H2, I2, r2, q2⟩ =>
    thn (ho pins s2 σ H2 x y v u _ I2 r1 r2 q2) fun d s3 ⟨z, H3, I3, r3, k, e, q3⟩ => ?_)) hm
  subst e
  cases r3
  refine wpAny_truthy_bool ?_
  cases k with
  | false => exact ite_ff ⟨.bl false, H3, I3, rfl, q3⟩
  | true => exact ite_tt (chain_last (thn (hc pins s3 σ H3 _ I3 q3) fun w' s4 ⟨z', H4, I4, r4, q4⟩ => ho' pins s4 σ H4 y z' u w' Q I4 r2 r4 q4))
theorem pt_chain {op op' : CmpOp} {r r' : R2} (ho : OpR X (compareOp op) r) (ho' : OpR X (compareOp op') r') (ha : PE X a ta) (hb : PE X b tb) (hc : PE X c tc)
    (hm : lastMarks [op, op'] [b, c] = false := by with_unfolding_all rfl) : PT X (.Compare a [op, op'] [b, c] pos) (tTest (tChain r r' ta tb tc)) := by
  intro pins s σ H Q I h
  refine isTrue_chain (thn (ha pins s σ H _ I h) fun v s1 ⟨x, H1, I1, r1, q1⟩ => test_link (thn (hb pins s1 σ H1 _ I1 q1) fun u s2 ⟨y, H2, I2, r2, q2⟩ =>
    thn (ho pins s2 σ H2 x y v u _ I2 r1 r2 q2) fun d s3 ⟨z, H3, I3, r3, k, e, q3⟩ => ?_)) hm
  subst e
  cases r3
  refine wpAny_truthy_bool ?_
  cases k with
  | false =>
    obtain ⟨k', e', q'⟩ := q3
    cases e'
    exact ite_ff ⟨H3, I3, q'⟩
  | true =>
    refine ite_tt (test_last (thn (hc pins s3 σ H3 _ I3 q3) fun w' s4 ⟨z', H4, I4, r4, q4⟩ => thn (ho' pins s4 σ H4 y z' u w' _ I4 r2 r4 q4) fun d' s5 ⟨z2, H5, I5, r5, k2, e2, q5⟩ => ?_))
    subst e2
    cases r5
    exact wpAny_truthy_bool ⟨H5, I5, q5⟩

/-! ### truth -/
/-- a value's truth by the abstract heap -/
def TruV (K : PySem.W.Frag) (x : V) (H : Hp) (k : Bool) : Prop :=
  match x with
  | .non => k = false
  | .bl b => k = b
  | .int i => k = (i != 0)
  | .str y => y.length ≤ sizeLine ∧ k = ((y.length : Int) != 0)
  | .byt y => y.size ≤ sizeLine ∧ k = ((y.size : Int) != 0)
  | .ref p => (∃ xs, SqL K H p xs ∧ k = !xs.isEmpty) ∨ (∃ xs, SqT K H p xs ∧ k = !xs.isEmpty) ∨ ∃ kvs, H p = some (.dK kvs) ∧ k = !kvs.isEmpty
  | _ => False
theorem isEmpty_kv {κ : Type} {kvs : List (κ × V)} {vs : List (κ × Value)} (r : KV kvs vs) : (!vs.isEmpty) = !kvs.isEmpty := by
  cases r <;> rfl
theorem isEmpty_of {xs : List V} {its : List Value} (r : Vals xs its) : (!its.toArray.isEmpty) = !xs.isEmpty := by
  cases r <;> simp
theorem line63 : (sizeLine : Nat) < 2 ^ 63 := by rw [sizeLine_eq]; decide
theorem tru_ok : TruR X (fun x H Q => ∃ k, TruV X.K x H k ∧ Q k H) := by
  intro pins s σ H x v Q I rx h
  obtain ⟨k, e, q⟩ := h
  have hl := line63
  have hs : sizeLine = 16777216 := sizeLine_eq
  cases x with
  | non =>
    cases rx
    have e' : k = false := e
    subst e'
    exact truthy_none ⟨H, I, q⟩
  | bl b =>
    cases rx
    have e' : k = b := e
    subst e'
    exact wpAny_truthy_bool ⟨H, I, q⟩
  | int i =>
    obtain ⟨t, rfl⟩ := rx
    have e' : k = (i != 0) := e
    subst e'
    exact PySem.P.truthy_int ⟨H, I, q⟩
  | str y =>
    obtain ⟨t, rfl⟩ := rx
    obtain ⟨hy, e'⟩ : y.length ≤ sizeLine ∧ k = ((y.length : Int) != 0) := e
    subst e'
    exact PySem.P.truthy_str (by omega) ⟨H, I.tok _, q⟩
  | byt y =>
    obtain ⟨t, rfl⟩ := rx
    obtain ⟨hy, e'⟩ : y.size ≤ sizeLine ∧ k = ((y.size : Int) != 0) := e
    subst e'
    exact PySem.W.truthy_bytes (by omega) ⟨H, I.tok _, q⟩
  | ref p =>
    cases rx
    have e' : (∃ xs, SqL X.K H p xs ∧ k = !xs.isEmpty) ∨ (∃ xs, SqT X.K H p xs ∧ k = !xs.isEmpty) ∨ ∃ kvs, H p = some (.dK kvs) ∧ k = !kvs.isEmpty := e
    rcases e' with ⟨xs, hx, e'⟩ | ⟨xs, hx, e'⟩ | ⟨kvs, hx, e'⟩
    · subst e'
      obtain ⟨its, r, pl, hz⟩ := I.list hx
      have hlen := r.length
      exact wpAny_truthy_list pl.isList (by simp only [List.size_toArray]; omega) ⟨H, I.tok _, by rw [isEmpty_of r]; exact q⟩
    · subst e'
      obtain ⟨its, r, pl, hz⟩ := I.tuple hx
      have hlen := r.length
      exact truthy_tuple pl (by simp only [List.size_toArray]; omega) ⟨H, I.tok _, by rw [isEmpty_of r]; exact q⟩
    · subst e'
      obtain ⟨hz, hS, vs, r, m⟩ : kvs.length ≤ sizeLine ∧ (p == sysModules) = false ∧ ∃ vs, KV kvs vs ∧ s.heap.DictOf (mixKind X.prog X.w) p vs := I.hok p _ hx
      have hlen : kvs.length = vs.length := Paired.length r
      exact wpAny_truthy_dict hS m (by omega) ⟨H, I.tok _, by rw [isEmpty_kv r]; exact q⟩
  | _ => exact (show False from e).elim
/-- any expression whose test is its value's truth (a name, a call, a subscript, a field ..: he by fun _ => rfl) -/
theorem pt_truth (ha : PE X a ta) (he : ∀ whole, isTrue a X.env whole = (do let v ← whole; standAt a.pos; holding [v] (truthy v))) :
    PT X a (fun σ H Q => ta σ H fun x H' => ∃ k, TruV X.K x H' k ∧ Q k H') := by
  intro pins s σ H Q I h
  exact isTrue_plain (thn (ha pins s σ H _ I h) fun v s1 ⟨x, H1, I1, r1, q1⟩ => tru_ok pins s1 σ H1 x v Q I1 r1 q1) (he _)

/-! ### strs and bytes -/
theorem pe_byt {x : List UInt8} {k : Nat} : PE X (.Constant (.bytes x) k pos) (fun _ H Q => Q (.byt x.toArray) H) := fun _ _ _ H _ I h => PySem.W.Constant_bytes ⟨.byt x.toArray, H, I.tok _, ⟨_, rfl⟩, h⟩
theorem op_add_str : OpR X (binaryOp .Add) (fun x y H Q => ∃ i j, x = .str i ∧ y = .str j ∧ i.length + j.length ≤ sizeLine ∧ Q (.str (i ++ j)) H) := by
  intro pins s σ H x y v u Q I rx ry h
  obtain ⟨i, j, rfl, rfl, hz, q⟩ := h
  obtain ⟨t, rfl⟩ := rx
  obtain ⟨t', rfl⟩ := ry
  exact add_str (fun t' tk => ⟨.str (i ++ j), H, I.tok _, ⟨_, rfl⟩, q⟩) hz
theorem iop_add_str : OpR X (inplaceOp .Add) (fun x y H Q => ∃ i j, x = .str i ∧ y = .str j ∧ i.length + j.length ≤ sizeLine ∧ Q (.str (i ++ j)) H) := by
  intro pins s σ H x y v u Q I rx ry h
  obtain ⟨i, j, rfl, rfl, hz, q⟩ := h
  obtain ⟨t, rfl⟩ := rx
  obtain ⟨t', rfl⟩ := ry
  exact iadd_str (fun t' tk => ⟨.str (i ++ j), H, I.tok _, ⟨_, rfl⟩, q⟩) hz
theorem op_add_byt : OpR X (binaryOp .Add) (fun x y H Q => ∃ i j, x = .byt i ∧ y = .byt j ∧ i.size + j.size ≤ 16777216 ∧ Q (.byt (i ++ j)) H) := by
  intro pins s σ H x y v u Q I rx ry h
  obtain ⟨i, j, rfl, rfl, hz, q⟩ := h
  obtain ⟨t, rfl⟩ := rx
  obtain ⟨t', rfl⟩ := ry
  exact PySem.W.KBy.add_bytes hz (fun t' tk => ⟨.byt (i ++ j), H, I.tok _, ⟨_, rfl⟩, q⟩)

def PlainIxT (b : Expr) : Prop := ∀ o i, subscripted b false o i = operate [o, i] (getItem o i)
/-- s[i], 0 ≤ i < len -/
theorem pe_item_str (ha : PE X a ta) (hb : PE X b tb) (hs : PlainIxT b) :
    PE X (.Subscript a b pos) (tOp (fun x y H Q => ∃ z i c, x = .str z ∧ y = .int i ∧ 0 ≤ i ∧ i < 2 ^ 63 ∧ i < z.length ∧ z.cps[i.toNat]? = some c ∧ Q (.str ⟨#[c]⟩) H) ta tb) := by
  intro pins s σ H Q I h
  refine Subscript_ (binT ha hb I h fun v u s2 x y H2 I2 rx ry q => ?_)
  obtain ⟨z, i, c, rfl, rfl, h0, h63, h1, hc, q⟩ := q
  obtain ⟨t, rfl⟩ := rx
  obtain ⟨t', rfl⟩ := ry
  have e : seqIndex? i z.length = some i.toNat := PySem.StrLaws.seqIndex_nonneg h0 h1
  exact tail_any (typeIs_str s2 z t) slot_str_getitem.lookup (getItem_str (c := c) (by
    have e1 : decide (i < -(2 ^ 63 : Int)) = false := decide_eq_false (by omega)
    have e2 : decide (i ≥ 2 ^ 63) = false := decide_eq_false (by omega)
    rw [e1, e2] <;> rfl) (by rw [e]; exact hc) ⟨.str ⟨#[c]⟩, H2, I2.tok _, ⟨_, rfl⟩, q⟩) (hs _ _)
/-- b[i], 0 ≤ i < len -/
theorem pe_item_byt (ha : PE X a ta) (hb : PE X b tb) (hs : PlainIxT b) :
    PE X (.Subscript a b pos) (tOp (fun x y H Q => ∃ (z : List UInt8) (i : Int), x = .byt z.toArray ∧ y = .int i ∧ z.length ≤ sizeLine ∧ 0 ≤ i ∧ i < z.length ∧ Q (.int ((z.getD i.toNat 0).toNat : Nat)) H) ta tb) := by
  intro pins s σ H Q I h
  refine Subscript_ (binT ha hb I h fun v u s2 x y H2 I2 rx ry q => ?_)
  obtain ⟨z, i, rfl, rfl, hz, h0, h1, q⟩ := q
  obtain ⟨t, rfl⟩ := rx
  obtain ⟨t', rfl⟩ := ry
  have hl : sizeLine = 16777216 := sizeLine_eq
  exact tail_any (PySem.W.typeIs_bytes s2 z.toArray t) PySem.W.FB.slot_bytes_getitem.lookup (PySem.W.getItem_bytes (by omega) h0 h1 ⟨.int ((z.getD i.toNat 0).toNat : Nat), H2, I2.tok _, ⟨_, rfl⟩, q⟩) (hs _ _)

/-! ### scalar builtins, by CallR -/
theorem vals1 {x : V} {us : List Value} (r : Vals [x] us) : ∃ u, us = [u] ∧ RelV x u := by
  cases r with
  | cons r1 r2 => cases r2; exact ⟨_, rfl, r1⟩
theorem vals2 {x y : V} {us : List Value} (r : Vals [x, y] us) : ∃ u w', us = [u, w'] ∧ RelV x u ∧ RelV y w' := by
  cases r with
  | cons r1 r2 =>
    cases r2 with
    | cons r3 r4 => cases r4; exact ⟨_, _, rfl, r1, r3⟩
theorem call_abs : CallR X (.builtin "abs") (fun xs H Q => ∃ i, xs = [.int i] ∧ Q (.int (if i < 0 then -i else i)) H) := by
  intro pins s σ H xs us Q I r h
  obtain ⟨i, rfl, q⟩ := h
  obtain ⟨u, rfl, t, rfl⟩ := vals1 r
  exact call_abs_int fun u tk => ⟨.int (if i < 0 then -i else i), H, I.tok _, ⟨_, rfl⟩, q⟩
theorem call_max2 (hc : X.calm = true) : CallR X (.builtin "max") (fun xs H Q => ∃ i j, xs = [.int i, .int j] ∧ Q (.int (if j > i then j else i)) H) := by
  intro pins s σ H xs us Q I r h
  obtain ⟨i, j, rfl, q⟩ := h
  obtain ⟨u, w', rfl, ⟨t, rfl⟩, ⟨t', rfl⟩⟩ := vals2 r
  refine max_two_ints (I.ok.hd hc) fun h' tk k => ⟨_, H, I.kept k, ?_, q⟩
  by_cases hj : j > i
  · rw [if_pos hj, if_pos hj]; exact ⟨_, rfl⟩
  · rw [if_neg hj, if_neg hj]; exact ⟨_, rfl⟩
theorem call_min2 (hc : X.calm = true) : CallR X (.builtin "min") (fun xs H Q => ∃ i j, xs = [.int i, .int j] ∧ Q (.int (if j < i then j else i)) H) := by
  intro pins s σ H xs us Q I r h
  obtain ⟨i, j, rfl, q⟩ := h
  obtain ⟨u, w', rfl, ⟨t, rfl⟩, ⟨t', rfl⟩⟩ := vals2 r
  refine min_two_ints (I.ok.hd hc) fun h' tk k => ⟨_, H, I.kept k, ?_, q⟩
  by_cases hj : j < i
  · rw [if_pos hj, if_pos hj]; exact ⟨_, rfl⟩
  · rw [if_neg hj, if_neg hj]; exact ⟨_, rfl⟩
theorem call_int1 : CallR X (.type "int") (fun xs H Q => (∃ i, xs = [.int i] ∧ Q (.int i) H) ∨ ∃ k, xs = [.bl k] ∧ Q (.int (if k then 1 else 0)) H) := by
  intro pins s σ H xs us Q I r h
  rcases h with ⟨i, rfl, q⟩ | ⟨k, rfl, q⟩
  · obtain ⟨u, rfl, t, rfl⟩ := vals1 r
    exact call_int_int ⟨.int i, H, I, ⟨_, rfl⟩, q⟩
  · obtain ⟨u, rfl, r1⟩ := vals1 r
    cases r1
    exact call_int_bool ⟨.int (if k then 1 else 0), H, I.tok _, ⟨_, rfl⟩, q⟩
theorem call_bool1 : CallR X (.type "bool") (fun xs H Q => (∃ i, xs = [.int i] ∧ Q (.bl (i != 0)) H) ∨ ∃ k, xs = [.bl k] ∧ Q (.bl k) H) := by
  intro pins s σ H xs us Q I r h
  rcases h with ⟨i, rfl, q⟩ | ⟨k, rfl, q⟩
  · obtain ⟨u, rfl, t, rfl⟩ := vals1 r
    exact call_bool_int ⟨.bl (i != 0), H, I, rfl, q⟩
  · obtain ⟨u, rfl, r1⟩ := vals1 r
    cases r1
    exact call_bool_bool ⟨.bl k, H, I, rfl, q⟩
theorem call_str_int : CallR X (.type "str") (fun xs H Q => ∃ i, xs = [.int i] ∧ i.natAbs.log2 < 1920 ∧ Q (.str (toString i)) H) := by
  intro pins s σ H xs us Q I r h
  obtain ⟨i, rfl, hz, q⟩ := h
  obtain ⟨u, rfl, t, rfl⟩ := vals1 r
  exact PySem.P.str_of_int hz ⟨.str _, H, I.tok _, ⟨_, rfl⟩, q⟩
theorem call_ord : CallR X (.builtin "ord") (fun xs H Q => ∃ x, xs = [.str x] ∧ x.length = 1 ∧ Q (.int (x.cps.getD 0 0 : Nat)) H) := by
  intro pins s σ H xs us Q I r h
  obtain ⟨x, rfl, hz, q⟩ := h
  obtain ⟨u, rfl, t, rfl⟩ := vals1 r
  exact ord_of_one hz ⟨.int _, H, I.tok _, ⟨_, rfl⟩, q⟩
theorem call_chr : CallR X (.builtin "chr") (fun xs H Q => ∃ i, xs = [.int i] ∧ 0 ≤ i ∧ i ≤ 1114111 ∧ Q (.str ⟨#[i.toNat]⟩) H) := by
  intro pins s σ H xs us Q I r h
  obtain ⟨i, rfl, h0, h1, q⟩ := h
  obtain ⟨u, rfl, t, rfl⟩ := vals1 r
  exact chr_of_range h0 h1 ⟨.str _, H, I.tok _, ⟨_, rfl⟩, q⟩
/-- len of a str, a bytes, a list, a tuple -/
def LenV (K : PySem.W.Frag) (x : V) (H : Hp) (n : Nat) : Prop :=
  match x with
  | .str y => y.length ≤ sizeLine ∧ n = y.length
  | .byt y => y.size ≤ sizeLine ∧ n = y.size
  | .ref p => (∃ xs, SqL K H p xs ∧ n = xs.length) ∨ ∃ xs, SqT K H p xs ∧ n = xs.length
  | _ => False
theorem call_len : CallR X (.builtin "len") (fun xs H Q => ∃ x n, xs = [x] ∧ LenV X.K x H n ∧ Q (.int n) H) := by
  intro pins s σ H xs us Q I r h
  obtain ⟨x, n, rfl, e, q⟩ := h
  obtain ⟨u, rfl, rx⟩ := vals1 r
  have hl := line63
  have hs : sizeLine = 16777216 := sizeLine_eq
  cases x with
  | str y =>
    obtain ⟨t, rfl⟩ := rx
    obtain ⟨hy, e'⟩ : y.length ≤ sizeLine ∧ n = y.length := e
    subst e'
    exact len_str (by omega) ⟨.int _, H, I.tok _, ⟨_, rfl⟩, q⟩
  | byt y =>
    obtain ⟨t, rfl⟩ := rx
    obtain ⟨hy, e'⟩ : y.size ≤ sizeLine ∧ n = y.size := e
    subst e'
    exact PySem.W.len_bytes (by omega) ⟨.int _, H, I.tok _, ⟨_, rfl⟩, q⟩
  | ref p =>
    cases rx
    have e' : (∃ xs, SqL X.K H p xs ∧ n = xs.length) ∨ ∃ xs, SqT X.K H p xs ∧ n = xs.length := e
    rcases e' with ⟨xs, hx, e'⟩ | ⟨xs, hx, e'⟩
    · subst e'
      obtain ⟨its, r', pl, hz⟩ := I.list hx
      have hlen := r'.length
      exact Calls.call_len_list pl.isList (by simp only [List.size_toArray]; omega) ⟨.int xs.length, H, I.tok _, ⟨_, by simp only [List.size_toArray]; rw [hlen]⟩, q⟩
    · subst e'
      obtain ⟨its, r', pl, hz⟩ := I.tuple hx
      have hlen := r'.length
      exact len_tuple pl (by simp only [List.size_toArray]; omega) ⟨.int xs.length, H, I.tok _, ⟨_, by simp only [List.size_toArray]; rw [hlen]⟩, q⟩
  | _ => exact (show False from e).elim
/-- divmod: a new tuple -/
theorem call_divmod : CallR X (.builtin "divmod") (fun xs H Q => ∃ i j, xs = [.int i, .int j] ∧ CDiv i j ∧ ∀ p, H p = none → Q (.ref p) (upd H p (.tup [.int (i / j), .int (i % j)]))) := by
  intro pins s σ H xs us Q I r h
  obtain ⟨i, j, rfl, ⟨h1, h2⟩, q⟩ := h
  obtain ⟨u, w', rfl, ⟨t, rfl⟩, ⟨t', rfl⟩⟩ := vals2 r
  refine divmod_int (by omega) ?_ (.inl (PyProof.noPylong_small (by omega)))
  rw [Int.fdiv_eq_ediv_of_nonneg i (by omega), Int.fmod_eq_emod_of_nonneg i (by omega)]
  have hn : H s.heap.objs.size = none := I.hok.fresh (Nat.le_refl _)
  refine ⟨.ref s.heap.objs.size, _, ?_, rfl, q _ hn⟩
  refine I.laid (fun b o e => Heap.get?_push_of_some _ e) (Nat.le_refl _) ⟨by simp only [List.length_cons, List.length_nil]; rw [sizeLine_eq]; decide, [.int (i / j) s.toks, .int (i % j) (s.toks + 1)], .cons ⟨_, rfl⟩ (.cons ⟨_, rfl⟩ .nil), ?_⟩
  exact ⟨_, Heap.get?_push_size s.heap rfl, rfl, 0, rfl⟩
end
end L2

namespace L2
open PySem PySem.Spec PyProof.Rows

/-! ### an instance, its attributes a map -/
structure ObjM (h : Heap) (x dx C : Addr) (mA : Str → Option Value) : Prop where
  obj : h.get? x = some (PySem.W.instObj C dx)
  ns : h.Ns1 dx mA
  ne : dx ≠ x

theorem lookIn_ns {h : Heap} {dx : Addr} {mA : Str → Option Value} (n : h.Ns1 dx mA) : ∃ od, h.get? dx = some od ∧ ∀ name, PySem.W.lookIn name od = some (mA name) := by
  obtain ⟨o, es, ep, ho, hd, hk, _, hm⟩ := n
  refine ⟨o, ho, fun name => ?_⟩
  have e := hm name
  unfold nsFind findBy at e
  rw [← Array.find?_toList] at e
  unfold PySem.W.lookIn
  rw [hd]
  dsimp only
  split
  · rename_i y q
    rw [q] at e
    exact congrArg some e
  · rename_i q
    rw [q] at e
    have a : es.toList.any (·.refKey) = false := by
      rw [List.any_eq_false]
      intro y hy
      obtain ⟨z, t, hkey⟩ := hk y (Array.mem_toList_iff.mp hy)
      simp [DictEntry.refKey, hkey]
    have a' : ¬ es.toList.any (·.refKey) = true := by rw [a]; exact Bool.false_ne_true
    rw [if_neg a']
    exact congrArg some e

theorem ObjM.look {h : Heap} {x dx C : Addr} {mA : Str → Option Value} (I : ObjM h x dx C mA) : ∃ od, PySem.W.InstAt h x (PySem.W.instObj C dx) C (some od) ∧ ∀ name, PySem.W.lookIn name od = some (mA name) :=
  let ⟨od, ho, hl⟩ := lookIn_ns I.ns
  ⟨od, ⟨I.obj, rfl, rfl, ho⟩, hl⟩

section
variable {prog : Program} {w : World} {A : Around} {E : Value → Shared → Prop} {s : Shared} {K : PySem.W.Frag} {x dx C f : Addr} {mA : Str → Option Value} {name : Str} {v : Value}

theorem get_map {expr : Bool} {Q : Value → Shared → Prop} (X : K.In s.heap) (I : ObjM s.heap x dx C mA) (hg : PySem.W.plainGet K C name = true) (hh : PySem.W.hasDictIn K C = true)
    (ha : PySem.W.findIn K (.ref C) name = some none) (hv : mA name = some v) (hv' : PySem.W.handedIn v = true) (h : Q v { s with toks := s.toks + 1 }) :
    wpAny (model prog w) A (getAttr (.ref x) name expr) Q E s := by
  obtain ⟨od, J, hl⟩ := I.look
  exact PySem.W.get_value X J (PySem.W.plainGet_of hg).1 (PySem.W.findObj_own hh ha rfl (by rw [hl, hv])) hv' h

theorem get_const {expr : Bool} {a : Value} {Q : Value → Shared → Prop} (X : K.In s.heap) (I : ObjM s.heap x dx C mA) (hg : PySem.W.plainGet K C name = true) (hh : PySem.W.hasDictIn K C = true)
    (ha : PySem.W.findIn K (.ref C) name = some (some a)) (hn : PySem.W.specialIn K a "__get__" = some none) (hc : PySem.W.copiedNames.contains name = false) (hv : mA name = none) (hv' : PySem.W.handedIn a = true)
    (h : Q a { s with toks := s.toks + 1 }) : wpAny (model prog w) A (getAttr (.ref x) name expr) Q E s := by
  obtain ⟨od, J, hl⟩ := I.look
  exact PySem.W.get_value X J (PySem.W.plainGet_of hg).1 (PySem.W.findObj_cls hh ha hn hv' hc (by rw [hl, hv])) hv' h

theorem get_meth {pl : Sem Bool} {Q : Value × List Value → Shared → Prop} (X : K.In s.heap) (I : ObjM s.heap x dx C mA) (hg : PySem.W.plainGet K C name = true)
    (hf : PySem.W.findIn K (.ref C) name = some (some (.ref f))) (ht : PySem.W.isFn K (.ref f) = true) (hv : mA name = none) (h : Q (.ref f, [.ref x]) s) :
    wpAny (model prog w) A (getMethod (.ref x) name pl) Q E s := by
  obtain ⟨od, J, hl⟩ := I.look
  exact PySem.W.method_fn X J (PySem.W.plainGet_of hg).1 (PySem.W.plainGet_of hg).2 hf (beq_iff_eq.mp ht) (by show (PySem.W.lookIn name od).map (·.isSome) = some false; rw [hl, hv]; rfl) h

theorem set_map {ns : List Str} {Q : Unit → Shared → Prop} (X : K.In s.heap) (I : ObjM s.heap x dx C mA)
    (hs : PySem.W.findIn K (.ref C) "__setattr__" = some (some (.builtin "object.__setattr__"))) (hp : PySem.W.plainOver K C = true) (ht : PySem.W.takerIn K C name = some none) (hh : PySem.W.hasDictIn K C = true)
    (hw : PySem.Within mA ns) (hsz : ns.length ≤ sizeLine)
    (h : ∀ h', ObjM h' x dx C (fun y => if y = name then some v else mA y) → Heap.SameBut dx s.heap h' → Q () { s with heap := h', toks := s.toks + 2 }) :
    wpAny (model prog w) A (setAttr (.ref x) name v) Q E s := by
  obtain ⟨od, J, hl⟩ := I.look
  refine PySem.W.set_plain X J hs (PySem.W.osa_open (s := { s with toks := s.toks + 1 }) (r := none) X J hp ht fun b => ?_)
  obtain ⟨cd, hc, hd'⟩ := PySem.W.any_some hh
  have hx : s.heap.get? x = some ⟨.ref C, some dx, .plain, #[]⟩ := I.obj
  refine wpAny_bind (wpAny_pure (wpAny_bind (wpAny_bind (wpAny_loadPart hx (wpAny_bind (PySem.W.Looks.here (s := { s with toks := s.toks + 1 }) (PySem.W.looks_clsIn X hc) ?_))))))
  rw [hd']
  refine wpAny_pure (a := some dx) (wpAny_bind (wpAny_pure (wpAny_bind ?_)))
  refine wpAny_nsSet1 (s := { s with toks := s.toks + 1 }) I.ns fun h' hn2 hs2 => ?_
  obtain ⟨oD, esD, epD, hoD, hdD, hcD⟩ := hn2.count (PySem.Within.cons name v hw)
  refine wpAny_bind (wpAny_lookBehind hoD (by rw [hdD]; exact pastItsLine_dict (Nat.le_trans hcD (by rw [List.length_cons]; omega))) ?_)
  exact wpAny_pure (h _ ⟨(hs2.2 _ (Ne.symm I.ne)).trans I.obj, hn2, I.ne⟩ hs2)

/-- C(..): the dict at the heap's end, the instance behind it; then its __init__ -/
theorem make_map {R : Result → Shared → Prop} {vs : List Value} {kw : List (Str × Value)} (X : K.In s.heap) (hm : PySem.W.makesIn K C = true)
    (hi : PySem.W.findIn K (.ref C) "__init__" = some (some (.ref f))) (hf : PySem.W.typeIn K (.ref f) = some (.type "function"))
    (h : codeAny (model prog w) (A.under (.builtin "type.__call__" ⟨.ref C :: vs, kw⟩)) (.call (.ref f) ⟨.ref (s.heap.objs.size + 1) :: vs, kw⟩) (PySem.W.InitBack (s.heap.objs.size + 1) R)
      { s with heap := (s.heap.push PySem.W.emptyDict).push (PySem.W.instObj C s.heap.objs.size) }) :
    codeAny (model prog w) A (.call (.ref C) ⟨vs, kw⟩) R s := by
  obtain ⟨hh, g, d, t, os⟩ := s
  exact PySem.W.make_core (PySem.W.makes_of X hm) (PySem.W.looks_findIn X hi) (fun self => PySem.W.bind_fn X self hf) (.inl rfl) h
/-- C() where there is no __init__ but object's -/
theorem make_map0 {R : Result → Shared → Prop} (X : K.In s.heap) (hm : PySem.W.makesIn K C = true)
    (hi : PySem.W.findIn K (.ref C) "__init__" = some (some (.builtin "object.__init__")))
    (hb : ∀ self, PySem.W.Looks (model prog w) s.heap (bindSpecial (.builtin "object.__init__") self) (.builtin "object.__init__", [self]))
    (h : codeAny (model prog w) (A.under (.builtin "type.__call__" ⟨[.ref C], []⟩)) (.call (.builtin "object.__init__") ⟨[.ref (s.heap.objs.size + 1)], []⟩) (PySem.W.InitBack (s.heap.objs.size + 1) R)
      { s with heap := (s.heap.push PySem.W.emptyDict).push (PySem.W.instObj C s.heap.objs.size) }) :
    codeAny (model prog w) A (.call (.ref C) ⟨[], []⟩) R s := by
  obtain ⟨hh, g, d, t, os⟩ := s
  exact PySem.W.make_core (PySem.W.makes_of X hm) (PySem.W.looks_findIn X hi) hb (.inr ⟨rfl, rfl⟩) h
end

/-! ### the attributes as a list of pairs -/
def putF (f : Str) (v : V) : List (Str × V) → List (Str × V)
  | [] => [(f, v)]
  | (g, x) :: r => if g = f then (g, v) :: r else (g, x) :: putF f v r
theorem lookup_putF (f g : Str) (v : V) : ∀ fs : List (Str × V), (putF f v fs).lookup g = if g = f then some v else fs.lookup g
  | [] => by
    show List.lookup g [(f, v)] = _
    by_cases h : g = f
    · have hb : (g == f) = true := beq_iff_eq.mpr h
      simp only [List.lookup, hb, if_pos h]
    · have hb : (g == f) = false := beq_eq_false_iff_ne.mpr h
      simp only [List.lookup, hb, if_neg h]
  | (k, x) :: r => by
    have ih := lookup_putF f g v r
    rw [show putF f v ((k, x) :: r) = (if k = f then (k, v) :: r else (k, x) :: putF f v r) from rfl]
    by_cases hk : k = f
    · rw [if_pos hk]
      by_cases h : g = k
      · have hb : (g == k) = true := beq_iff_eq.mpr h
        simp only [List.lookup, hb, if_pos (h.trans hk)]
      · have hb : (g == k) = false := beq_eq_false_iff_ne.mpr h
        simp only [List.lookup, hb, if_neg (fun e : g = f => h (e.trans hk.symm))]
    · rw [if_neg hk]
      by_cases h : g = k
      · have hb : (g == k) = true := beq_iff_eq.mpr h
        simp only [List.lookup, hb, if_neg (fun e : g = f => hk (h.symm.trans e))]
      · have hb : (g == k) = false := beq_eq_false_iff_ne.mpr h
        simp only [List.lookup, hb]
        exact ih
theorem keys_putF (f : Str) (v : V) : ∀ fs : List (Str × V), f ∈ (putF f v fs).map (·.1) ∧ ∀ g, g ∈ fs.map (·.1) → g ∈ (putF f v fs).map (·.1)
  | [] => ⟨by simp [putF], fun g h => by simp at h⟩
  | (k, x) :: r => by
    obtain ⟨i1, i2⟩ := keys_putF f v r
    rw [show putF f v ((k, x) :: r) = (if k = f then (k, v) :: r else (k, x) :: putF f v r) from rfl]
    by_cases hk : k = f
    · rw [if_pos hk]
      subst hk
      exact ⟨by simp, fun g h => by simpa using h⟩
    · rw [if_neg hk]
      refine ⟨?_, fun g h => ?_⟩
      · rw [List.map_cons]
        exact List.mem_cons_of_mem _ i1
      · rw [List.map_cons] at h ⊢
        rcases List.mem_cons.mp h with e | e
        · exact List.mem_cons.mpr (.inl e)
        · exact List.mem_cons_of_mem _ (i2 g e)
theorem length_putF (f : Str) (v : V) : ∀ fs : List (Str × V), (putF f v fs).length ≤ fs.length + 1
  | [] => by simp [putF]
  | (k, x) :: r => by
    have ih := length_putF f v r
    rw [show putF f v ((k, x) :: r) = (if k = f then (k, v) :: r else (k, x) :: putF f v r) from rfl]
    by_cases hk : k = f
    · rw [if_pos hk, List.length_cons, List.length_cons]; omega
    · rw [if_neg hk, List.length_cons, List.length_cons]; omega

theorem RelO.some_of {v : V} {o : Option Value} (r : RelO (some v) o) : ∃ u, o = some u ∧ RelV v u := by
  cases o with
  | none => exact (show False from r).elim
  | some u => exact ⟨u, rfl, r⟩
theorem RelO.none_of {o : Option Value} (r : RelO none o) : o = none := by
  cases o with
  | none => rfl
  | some u => exact (show False from r).elim
theorem handed_of {v : V} {u : Value} (r : RelV v u) : PySem.W.handedIn u = true := by
  cases v with
  | non => cases (show u = Value.none from r); rfl
  | bl b => cases (show u = Value.bool b from r); rfl
  | int i => obtain ⟨t, e⟩ := (show ∃ t, u = Value.int i t from r); cases e; rfl
  | str x => obtain ⟨t, e⟩ := (show ∃ t, u = Value.str x t from r); cases e; rfl
  | byt b => obtain ⟨t, e⟩ := (show ∃ t, u = Value.bytes b t from r); cases e; rfl
  | flt b => obtain ⟨t, e⟩ := (show ∃ t, u = Value.float b t from r); cases e; rfl
  | ref a => cases (show u = Value.ref a from r); rfl
  | ty n => cases (show u = Value.type n from r); rfl

section
variable {P : Program} {w : World} {H H' : Hp} {h h' : Heap} {a C dx : Addr} {fs fs' : List (Str × V)}
theorem ins_get (hok : HOk P w H h) (e : H a = some (.ins C dx fs)) : ∃ mA, ObjM h a dx C mA ∧ (∀ f, RelO (fs.lookup f) (mA f)) ∧ PySem.Within mA (fs.map (·.1)) ∧ fs.length ≤ 1000 ∧ H dx = some (.own a) := by
  obtain ⟨d, z, ne, ob, mA, n, r, q⟩ := (show ObjOk P w H h a (.ins C dx fs) from hok a _ e)
  exact ⟨mA, ⟨ob, n, ne⟩, r, q, z, d⟩
end

/-! ### what of the text a class must have -/
structure Cls (K : PySem.W.Frag) (C : Addr) : Prop where
  pg : PySem.W.plainGet K C Str.empty = true
  hd : PySem.W.hasDictIn K C = true
  po : PySem.W.plainOver K C = true
  sa : PySem.W.findIn K (.ref C) "__setattr__" = some (some (.builtin "object.__setattr__"))
theorem Cls.get {K : PySem.W.Frag} {C : Addr} (c : Cls K C) (f : Str) : PySem.W.plainGet K C f = true := c.pg
/-- no class of it has the name -/
def NoAttr (K : PySem.W.Frag) (C : Addr) (f : Str) : Prop := PySem.W.findIn K (.ref C) f = some none
theorem NoAttr.taker {K : PySem.W.Frag} {C : Addr} {f : Str} (n : NoAttr K C f) : PySem.W.takerIn K C f = some none := by
  unfold PySem.W.takerIn
  rw [show PySem.W.findIn K (.ref C) f = some none from n]
  rfl
/-- a constant of the class -/
structure Con (K : PySem.W.Frag) (C : Addr) (f : Str) (v : V) (u : Value) : Prop where
  at_ : PySem.W.findIn K (.ref C) f = some (some u)
  rel : RelV v u
  get : PySem.W.specialIn K u "__get__" = some none
  cp : PySem.W.copiedNames.contains f = false
/-- a method: a plain def of the class or of one above it -/
structure Meth (K : PySem.W.Frag) (C : Addr) (m : Str) (f : Addr) : Prop where
  at_ : PySem.W.findIn K (.ref C) m = some (some (.ref f))
  fn : PySem.W.isFn K (.ref f) = true
  kp : PySem.W.keepIn K (.ref f) = true

section
variable {X : Cx} {pins : List (Addr × Obj)} {σ : St} {H : Hp} {s : Shared} {a C dx : Addr} {fs : List (Str × V)} {f : Str} {v : V} {A : Around} {E : Value → Shared → Prop}

theorem getattr_ok {b : Bool} {Q : Value → Shared → Prop} (I : Inv X pins σ H s) (e : H a = some (.ins C dx fs)) (c : Cls X.K C) (n : NoAttr X.K C f) (l : fs.lookup f = some v)
    (h : ∀ u s', Inv X pins σ H s' → RelV v u → Q u s') : wpAny (model X.prog X.w) A (getAttr (.ref a) f b) Q E s := by
  obtain ⟨mA, O, r, _, _, _⟩ := ins_get I.hok e
  obtain ⟨u, hu, ru⟩ := RelO.some_of (v := v) (o := mA f) (by rw [← l]; exact r f)
  exact get_map I.kIn O (c.get f) c.hd n hu (handed_of ru) (h u _ (I.tok _) ru)

theorem getcon_ok {b : Bool} {u : Value} {Q : Value → Shared → Prop} (I : Inv X pins σ H s) (e : H a = some (.ins C dx fs)) (c : Cls X.K C) (k : Con X.K C f v u) (l : fs.lookup f = none)
    (h : ∀ s', Inv X pins σ H s' → Q u s') : wpAny (model X.prog X.w) A (getAttr (.ref a) f b) Q E s := by
  obtain ⟨mA, O, r, _, _, _⟩ := ins_get I.hok e
  have hn : mA f = none := RelO.none_of (by rw [← l]; exact r f)
  exact get_const I.kIn O (c.get f) c.hd k.at_ k.get k.cp hn (handed_of k.rel) (h _ (I.tok _))

theorem getmeth_ok {m : Str} {g : Addr} {pl : Sem Bool} {Q : Value × List Value → Shared → Prop} (I : Inv X pins σ H s) (e : H a = some (.ins C dx fs)) (c : Cls X.K C) (k : Meth X.K C m g) (l : fs.lookup m = none)
    (h : Q (.ref g, [.ref a]) s) : wpAny (model X.prog X.w) A (getMethod (.ref a) m pl) Q E s := by
  obtain ⟨mA, O, r, _, _, _⟩ := ins_get I.hok e
  have hn : mA m = none := RelO.none_of (by rw [← l]; exact r m)
  exact get_meth I.kIn O (c.get m) k.at_ k.fn hn h

theorem setattr_ok {y : V} {u : Value} {Q : Unit → Shared → Prop} (I : Inv X pins σ H s) (e : H a = some (.ins C dx fs)) (c : Cls X.K C) (n : NoAttr X.K C f) (hl : fs.length < 1000) (ry : RelV y u)
    (h : ∀ s', Inv X pins σ (upd H a (.ins C dx (putF f y fs))) s' → Q () s') : wpAny (model X.prog X.w) A (setAttr (.ref a) f u) Q E s := by
  obtain ⟨mA, O, r, wi, _, ho⟩ := ins_get I.hok e
  have hz : (fs.map (·.1)).length ≤ sizeLine := by rw [List.length_map, sizeLine_eq]; omega
  refine set_map I.kIn O c.sa c.po n.taker c.hd wi hz fun h' O' sb => h _ ?_
  have hd : ∃ o, h'.get? dx = some o := let ⟨o, _, _, e', _⟩ := O'.ns; ⟨o, e'⟩
  refine I.write (x := a) (e := dx) (by rw [e]; exact True.intro) (.inr ho) (fun b q hb z => (sb.2 b hb).trans z) hd ?_
  refine ⟨by rw [upd_ne O.ne]; exact ho, ?_, O.ne, O'.obj, _, O'.ns, fun g => ?_, fun g hg => ?_⟩
  · have := length_putF f y fs; omega
  · show RelO ((putF f y fs).lookup g) (if g = f then some u else mA g)
    rw [lookup_putF]
    by_cases q : g = f
    · rw [if_pos q, if_pos q]; exact ry
    · rw [if_neg q, if_neg q]; exact r g
  · by_cases q : g = f
    · rw [q]; exact (keys_putF f y fs).1
    · refine (keys_putF f y fs).2 g (wi g fun z => hg ?_)
      show (if g = f then some u else mA g) = none
      rw [if_neg q]; exact z

/-- a new instance, tracked, without attributes -/
theorem Inv.made (I : Inv X pins σ H s) : Inv X pins σ (upd (upd H s.heap.objs.size (.own (s.heap.objs.size + 1))) (s.heap.objs.size + 1) (.ins C s.heap.objs.size []))
    { s with heap := (s.heap.push PySem.W.emptyDict).push (PySem.W.instObj C s.heap.objs.size) } := by
  have e1 : (s.heap.push PySem.W.emptyDict).get? s.heap.objs.size = some PySem.W.emptyDict := Heap.get?_push_size s.heap rfl
  have e2 : ((s.heap.push PySem.W.emptyDict).push (PySem.W.instObj C s.heap.objs.size)).get? (s.heap.objs.size + 1) = some (PySem.W.instObj C s.heap.objs.size) := by
    have := Heap.get?_push_size (s.heap.push PySem.W.emptyDict) (o := PySem.W.instObj C s.heap.objs.size) rfl
    rwa [Heap.size_push] at this
  have e3 : (s.heap.push PySem.W.emptyDict).Ns s.heap.objs.size (fun _ => none) := ⟨PySem.W.emptyDict, #[], _, e1, rfl, (fun e he => absurd he (by simp)), fun _ => rfl⟩
  have I1 := I.laid (a := s.heap.objs.size) (o := .own (s.heap.objs.size + 1)) (h' := s.heap.push PySem.W.emptyDict) (t' := s.toks) (fun b u q => Heap.get?_push_of_some _ q) (Nat.le_refl _) ⟨_, e1⟩
  refine I1.laid (a := s.heap.objs.size + 1) (o := .ins C s.heap.objs.size []) (t' := s.toks) (fun b u q => Heap.get?_push_of_some _ q) (Nat.le_of_eq (Heap.size_push _ _)) ?_
  have ne : s.heap.objs.size ≠ s.heap.objs.size + 1 := Nat.ne_of_lt (Nat.lt_succ_self _)
  refine ⟨by rw [upd_ne ne, upd_same], Nat.zero_le _, ne, e2, fun _ => none, (Heap.Ns1.of_empty e3).at fun o q => Heap.get?_push_of_some _ q, fun _ => True.intro, fun y hy => absurd rfl hy⟩

/-- e.f where nothing but the object is asked: through attributeBase (super) and the last hold -/
theorem attr_of {prog : Program} {w : World} {env : Env} {e : Expr} {f : Str} {pos : Pos} {s : Shared} {Q : Value → Shared → Prop} (hb : attributeBase e f env (eval e env) = eval e env)
    (h : wpAny (model prog w) A (eval e env) (fun o s₁ => wpAny (model prog w) A (getAttr o f true) Q E s₁) E s) : wpAny (model prog w) A (eval (.Attribute e f pos) env) Q E s :=
  Attribute_any_ h (by rw [arm_eval_Attribute, hb])
end

/-! ### readings and rules -/
/-- e.f, an attribute of the instance -/
def tFld (K : PySem.W.Frag) (ta : TE) (f : Str) : TE := fun σ H Q => ta σ H fun x H1 => ∃ a C dx fs v, x = .ref a ∧ H1 a = some (.ins C dx fs) ∧ Cls K C ∧ NoAttr K C f ∧ fs.lookup f = some v ∧ Q v H1
/-- e.f, a constant of the class -/
def tCon (K : PySem.W.Frag) (ta : TE) (f : Str) : TE := fun σ H Q => ta σ H fun x H1 => ∃ a C dx fs v u, x = .ref a ∧ H1 a = some (.ins C dx fs) ∧ Cls K C ∧ Con K C f v u ∧ fs.lookup f = none ∧ Q v H1
/-- e.f = value -/
def sFld (K : PySem.W.Frag) (ta tv : TE) (f : Str) : TS := fun D σ H => tv σ H fun y H1 => ta σ H1 fun x H2 => ∃ a C dx fs, x = .ref a ∧ H2 a = some (.ins C dx fs) ∧ Cls K C ∧ NoAttr K C f ∧ fs.length < 1000 ∧
  D.nx σ (upd H2 a (.ins C dx (putF f y fs)))
/-- an augmented operator on two values -/
def InOp (X : Cx) (op : Operator) (rd : V → V → Hp → VK → Prop) : Prop :=
  ∀ (pins : List (Addr × Obj)) (s : Shared) (σ : St) (H : Hp) (x y : V) (u v : Value) (Q : VK), Inv X pins σ H s → RelV x u → RelV y v → rd x y H Q → wpAny (model X.prog X.w) X.A (inplaceOp op u v) (EP X pins σ Q) X.xe s
/-- e.f op= value -/
def sFldAug (K : PySem.W.Frag) (ta tv : TE) (rd : V → V → Hp → VK → Prop) (f : Str) : TS := fun D σ H => ta σ H fun x H1 => ∃ a C dx fs v, x = .ref a ∧ H1 a = some (.ins C dx fs) ∧ Cls K C ∧ NoAttr K C f ∧ fs.lookup f = some v ∧
  tv σ H1 fun y H2 => rd v y H2 fun z H3 => ∃ dx' fs', H3 a = some (.ins C dx' fs') ∧ fs'.length < 1000 ∧ D.nx σ (upd H3 a (.ins C dx' (putF f z fs')))

section
variable {X : Cx} {o e value : Expr} {f : Str} {pos pos' tpos : Pos} {ta tv : TE}
theorem pe_fld (he : PE X e ta) (hb : attributeBase e f X.env (eval e X.env) = eval e X.env) : PE X (.Attribute e f pos) (tFld X.K ta f) := by
  intro pins s σ H Q I h
  refine attr_of hb (thn (he pins s σ H _ I h) fun u s1 ⟨x, H1, I1, rx, a, C, dx, fs, v, ex, ea, c, n, l, q⟩ => ?_)
  subst ex
  obtain rfl : u = Value.ref a := rx
  exact getattr_ok I1 ea c n l fun u' s2 I2 ru => ⟨v, H1, I2, ru, q⟩
theorem pe_con (he : PE X e ta) (hb : attributeBase e f X.env (eval e X.env) = eval e X.env) : PE X (.Attribute e f pos) (tCon X.K ta f) := by
  intro pins s σ H Q I h
  refine attr_of hb (thn (he pins s σ H _ I h) fun u s1 ⟨x, H1, I1, rx, a, C, dx, fs, v, u0, ex, ea, c, k, l, q⟩ => ?_)
  subst ex
  obtain rfl : u = Value.ref a := rx
  exact getcon_ok I1 ea c k l fun s2 I2 => ⟨v, H1, I2, k.rel, q⟩
theorem ps_fld (ha : PE X o ta) (hv : PE X value tv) (hs : swapsWith value (some (.Attribute o f pos')) pos.line X.env = pure false) : PS X (.Assign [.Attribute o f pos'] value pos) (sFld X.K ta tv f) := by
  intro pins s σ H D I h
  refine plainObj_wpAny_Assign_Attribute (thn (hv pins s σ H _ I h) fun u s1 ⟨y, H1, I1, ry, q⟩ => thn (ha pins s1 σ H1 _ I1 q) fun ov s2 ⟨x, H2, I2, rx, a, C, dx, fs, ex, ea, c, n, l, q2⟩ => ?_) hs
  subst ex
  obtain rfl : ov = Value.ref a := rx
  exact setattr_ok I2 ea c n l ry fun s3 I3 => ⟨σ, _, I3, q2⟩
theorem ps_fldaug {op : Operator} {rd : V → V → Hp → VK → Prop} (ha : PE X o ta) (hv : PE X value tv) (hop : InOp X op rd) : PS X (.AugAssign (.Attribute o f tpos) op value pos) (sFldAug X.K ta tv rd f) := by
  intro pins s σ H D I h
  refine wpAny_AugAssign_AttributeAny (thn (ha pins s σ H _ I h) fun ov s1 ⟨x, H1, I1, rx, a, C, dx, fs, v, ex, ea, c, n, l, q⟩ => ?_)
  subst ex
  obtain rfl : ov = Value.ref a := rx
  refine getattr_ok I1 ea c n l fun u s2 I2 ru => thn (hv pins s2 σ H1 _ I2 q) fun w3 s3 ⟨y, H2, I3, ry, q3⟩ => thn (hop pins s3 σ H2 v y u w3 _ I3 ru ry q3) fun w4 s4 ⟨z, H3, I4, rz, dx', fs', ea', l', q4⟩ => ?_
  exact setattr_ok I4 ea' c n l' rz fun s5 I5 => ⟨σ, _, I5, q4⟩
def rAdd : V → V → Hp → VK → Prop := fun x y H Q => ∃ i j, x = .int i ∧ y = .int j ∧ Q (.int (i + j)) H
def rSub : V → V → Hp → VK → Prop := fun x y H Q => ∃ i j, x = .int i ∧ y = .int j ∧ Q (.int (i - j)) H
theorem in_add : InOp X .Add rAdd := by
  rintro pins s σ H x y u v Q I rx ry ⟨i, j, rfl, rfl, q⟩
  obtain ⟨t, rfl⟩ := (show ∃ t, u = Value.int i t from rx)
  obtain ⟨t', rfl⟩ := (show ∃ t', v = Value.int j t' from ry)
  exact PyProof.Rows.iadd_int ⟨.int (i + j), H, I.tok _, ⟨_, rfl⟩, q⟩
theorem in_sub : InOp X .Sub rSub := by
  rintro pins s σ H x y u v Q I rx ry ⟨i, j, rfl, rfl, q⟩
  obtain ⟨t, rfl⟩ := (show ∃ t, u = Value.int i t from rx)
  obtain ⟨t', rfl⟩ := (show ∃ t', v = Value.int j t' from ry)
  exact PyProof.Rows.isub_int ⟨.int (i - j), H, I.tok _, ⟨_, rfl⟩, q⟩

/-- what is between an instance and its method: the tree of a method call -/
theorem methcall_of {pl : Sem Bool} {m : Str} {apos : Pos} {args : List Expr} {pins : List (Addr × Obj)} {s : Shared} {σ : St} {H : Hp} {Q : Value → Shared → Prop} {te : TE} (he : PE X e te) (I : Inv X pins σ H s)
    (h : te σ H fun x H1 => ∃ a C dx fs g, x = .ref a ∧ H1 a = some (.ins C dx fs) ∧ Cls X.K C ∧ Meth X.K C m g ∧ fs.lookup m = none ∧
      ∀ s1, Inv X pins σ H1 s1 → wpAny (model X.prog X.w) X.A (callWith pos (.ref g) [.ref a] (backTo pos (starEach args X.env)) (backToKw pos (keywordEach [] X.env))) Q X.xe s1)
    (ht : eval (.Call (.Attribute e m apos) args [] pos) X.env = (do
      let ov ← eval e X.env
      standAt apos.atName
      let (f, first) ← holding [ov] (getMethod ov m pl)
      callWith pos f first (backTo pos (starEach args X.env)) (backToKw pos (keywordEach [] X.env)))) :
    wpAny (model X.prog X.w) X.A (eval (.Call (.Attribute e m apos) args [] pos) X.env) Q X.xe s := by
  refine PySem.W.methodCall_KW (pl := pl) (thn (he pins s σ H _ I h) fun u s1 ⟨x, H1, I1, rx, a, C, dx, fs, g, ex, ea, c, k, l, q⟩ => ?_) ht
  subst ex
  obtain rfl : u = Value.ref a := rx
  exact getmeth_ok I1 ea c k l (q s1 I1)
end

/-! ### isinstance -/
section
variable {X : Cx} {pins : List (Addr × Obj)} {σ : St} {H : Hp} {s : Shared} {A : Around} {E : Value → Shared → Prop} {Q : Value → Shared → Prop} {c : Value} {b : Bool}
/-- the type of a value, as the fragment's deciders take it; for an instance its class -/
inductive TyOf (K : PySem.W.Frag) (H : Hp) : V → Value → Prop where
  | non : TyOf K H .non (.type "NoneType")
  | bl (x : Bool) : TyOf K H (.bl x) (.type "bool")
  | int (i : Int) : TyOf K H (.int i) (.type "int")
  | str (x : Str) : TyOf K H (.str x) (.type "str")
  | flt (x : UInt64) : TyOf K H (.flt x) (.type "float")
  | lst {a : Addr} {xs : List V} (e : H a = some (.lst xs)) : TyOf K H (.ref a) (.type "list")
  | frz {a : Addr} {o : Obj} {xs : List V} (e : H a = some (.frz o (.lst xs))) : TyOf K H (.ref a) (.type "list")
  | tup {a : Addr} {xs : List V} (e : H a = some (.tup xs)) : TyOf K H (.ref a) (.type "tuple")
  | dK {a : Addr} {kvs : List (Key × V)} (e : H a = some (.dK kvs)) : TyOf K H (.ref a) (.type "dict")
  | dT {a : Addr} {kvs : List (List Key × V)} (e : H a = some (.dT kvs)) : TyOf K H (.ref a) (.type "dict")
  | ins {a C dx : Addr} {fs : List (Str × V)} (e : H a = some (.ins C dx fs)) (cl : Cls K C) (ha : PySem.W.findIn K (.ref C) "__class__" = some (some (.builtin "object.__class__")))
      (hn : PySem.W.specialIn K (.builtin "object.__class__") "__get__" = some (some (.builtin "getset_descriptor.__get__"))) (htk : PySem.W.takesIn K (.builtin "object.__class__") = some true)
      (hm : PySem.W.mroIn K C (.type "object") = some true) : TyOf K H (.ref a) (.ref C)
/-- isinstance(x, c) for one class c, a built-in or an own one: kitOne's answer -/
theorem isinst_ok {x : V} {u t : Value} (I : Inv X pins σ H s) (rx : RelV x u) (ty : TyOf X.K H x t) (e : PySem.W.kitOne X.K t c = some b) (h : ∀ tk, Q (.bool b) { s with toks := tk }) :
    wpAny (model X.prog X.w) A (call (.builtin "isinstance") [u, c]) Q E s := by
  cases ty with
  | non => cases (show u = Value.none from rx); exact PySem.W.kia_one PySem.W.kitx_none I.kIn True.intro e (fun z => nomatch z) h
  | bl y => cases (show u = Value.bool y from rx); exact PySem.W.kia_one PySem.W.kitx_bool I.kIn True.intro e (fun z => nomatch z) h
  | int i => obtain ⟨t, q⟩ := (show ∃ t, u = Value.int i t from rx); cases q; exact PySem.W.kia_one PySem.W.kitx_int I.kIn True.intro e (fun z => nomatch z) h
  | str y => obtain ⟨t, q⟩ := (show ∃ t, u = Value.str y t from rx); cases q; exact PySem.W.kia_one PySem.W.kitx_str I.kIn True.intro e (fun z => nomatch z) h
  | flt y => obtain ⟨t, q⟩ := (show ∃ t, u = Value.float y t from rx); cases q; exact PySem.W.kia_one PySem.W.kitx_float I.kIn True.intro e (fun z => nomatch z) h
  | @lst a xs ea =>
    cases (show u = Value.ref a from rx)
    obtain ⟨_, _, n, _, h1⟩ := (show ObjOk X.prog X.w H s.heap a (.lst xs) from I.hok a _ ea)
    exact PySem.W.kia_one PySem.W.kitx_list I.kIn ⟨_, h1, rfl⟩ e (fun z => nomatch z) h
  | @frz a ob xs ea =>
    cases (show u = Value.ref a from rx)
    obtain ⟨_, _, _, n, _, h1⟩ := (show ObjOk X.prog X.w H s.heap a (.frz ob (.lst xs)) from I.hok a _ ea)
    exact PySem.W.kia_one PySem.W.kitx_list I.kIn ⟨_, h1, rfl⟩ e (fun z => nomatch z) h
  | @tup a xs ea =>
    cases (show u = Value.ref a from rx)
    obtain ⟨_, _, _, p⟩ := (show ObjOk X.prog X.w H s.heap a (.tup xs) from I.hok a _ ea)
    obtain ⟨o, h1, h2, _⟩ := p
    exact PySem.W.kia_one PySem.W.kitx_tuple I.kIn ⟨o, h1, h2⟩ e (fun z => nomatch z) h
  | @dK a kvs ea =>
    cases (show u = Value.ref a from rx)
    obtain ⟨_, _, vs, _, p⟩ := (show ObjOk X.prog X.w H s.heap a (.dK kvs) from I.hok a _ ea)
    obtain ⟨o, es, ep, h1, h2, _⟩ := p
    exact PySem.W.kia_one PySem.W.kitx_dict I.kIn ⟨o, h1, h2.1⟩ e (fun z => nomatch z) h
  | @dT a kvs ea =>
    cases (show u = Value.ref a from rx)
    obtain ⟨_, _, xs, _, o, es, ep, h1, h2, _⟩ := (show ObjOk X.prog X.w H s.heap a (.dT kvs) from I.hok a _ ea)
    exact PySem.W.kia_one PySem.W.kitx_dict I.kIn ⟨o, h1, h2.1⟩ e (fun z => nomatch z) h
  | @ins a C dx fs ea cl ha hn htk hm =>
    cases (show u = Value.ref a from rx)
    obtain ⟨mA, O, _⟩ := ins_get I.hok ea
    obtain ⟨od, J, _⟩ := O.look
    exact PySem.W.kia_one (PySem.W.kitx_own (cl.get _) cl.hd ha hn htk hm) I.kIn J e (fun z => nomatch z) h
end
end L2

namespace L2
open PySem PySem.Spec PyProof.Rows

/-! ### room -/
structure Room (k : Nat) (A : Around) : Prop where
  hd : A.handled = none
  dp : A.depth + 3 * k + 5 < recursionLimit
  un : A.units + 16 * k + 200 < cLine
theorem Room.mono {j k : Nat} {A : Around} (r : Room k A) (h : j ≤ k) : Room j A := ⟨r.hd, by have := r.dp; omega, by have := r.un; omega⟩
theorem Room.deeper {k : Nat} {A : Around} (r : Room (k + 1) A) (env : Env) : Room k (A.deeper env) :=
  ⟨r.hd, by have := r.dp; show A.depth + 1 + 3 * k + 5 < _; omega, by have := r.un; show A.units + 3 + 16 * k + 200 < _; omega⟩
theorem Room.in1 {k : Nat} {A : Around} (r : Room (k + 1) A) : Room k A.in1 :=
  ⟨r.hd, by have := r.dp; show A.depth + 3 * k + 5 < _; omega, by have := r.un; show A.units + 1 + 16 * k + 200 < _; omega⟩
theorem make_depth {A : Around} {C : Addr} {us : List Value} {kw : List (Str × Value)} : (A.under (.builtin "type.__call__" ⟨.ref C :: us, kw⟩)).depth = A.depth + 1 := by
  first | rfl | simp [Around.under, Code.weight, Code.isCreation, Code.isGuard, Code.isCaller, Code.frames, Code.isFrame, guardIds]
theorem make_units {A : Around} {C : Addr} {us : List Value} {kw : List (Str × Value)} : (A.under (.builtin "type.__call__" ⟨.ref C :: us, kw⟩)).units = A.units + 1 := by
  first | rfl | simp [Around.under, Code.cUnits, Code.frames, Code.isFrame]
theorem Room.make {k : Nat} {A : Around} (r : Room (k + 1) A) (C : Addr) (us : List Value) (kw : List (Str × Value)) : Room k (A.under (.builtin "type.__call__" ⟨.ref C :: us, kw⟩)) :=
  ⟨r.hd, by have := r.dp; rw [make_depth]; omega, by have := r.un; rw [make_units]; omega⟩
theorem Room.depth {k : Nat} {A : Around} (r : Room k A) : A.depth < recursionLimit := by have := r.dp; omega
theorem Room.units {k : Nat} {A : Around} (r : Room k A) : A.units + 64 < cLine := by have := r.un; omega
theorem Room.units0 {k : Nat} {A : Around} (r : Room k A) : A.units < cLine := by have := r.un; omega

/-! ### argument lists and displays -/
def tNil : TA := fun _ H Q => Q [] H
def tCons (ta : TE) (tr : TA) : TA := fun σ H Q => ta σ H fun x H1 => tr σ H1 fun xs H2 => Q (x :: xs) H2
section
variable {X : Cx} {e : Expr} {es : List Expr} {te : TE} {t : TA} {pos : Pos}
theorem pa_nil : PA X [] tNil := fun _ _ _ _ H Q I h => Calls.spliced_nil ⟨[], H, I, .nil, h⟩
theorem pa_cons (ha : PE X e te) (hr : PA X es t) (hs : starEach (e :: es) X.env = (false, eval e X.env) :: starEach es X.env := by rfl) : PA X (e :: es) (tCons te t) := by
  intro pos pins s σ H Q I h
  rw [hs]
  show wpAny _ _ (spliced ((false, eval e X.env) :: backTo pos (starEach es X.env))) _ _ s
  refine Calls.spliced_cons (thn (ha pins s σ H _ I h) fun u s1 ⟨x, H1, I1, r1, q1⟩ => ?_)
  exact thn (hr pos pins s1 σ H1 _ I1 q1) fun us s2 ⟨xs, H2, I2, r2, q2⟩ => ⟨x :: xs, H2, I2, .cons r1 r2, q2⟩

/-- a tuple, a list of written items -/
def tTup (t : TA) : TE := fun σ H Q => t σ H fun xs H1 => xs.length ≤ sizeLine ∧ ∀ p, H1 p = none → Q (.ref p) (upd H1 p (.tup xs))
def tLst (t : TA) : TE := fun σ H Q => t σ H fun xs H1 => xs.length ≤ sizeLine ∧ ∀ p, H1 p = none → Q (.ref p) (upd H1 p (.lst xs))
theorem pe_tup {x1} (h : PA X es t) : PE X (.Tuple es x1 pos) (tTup t) := by
  intro pins s σ H Q I hq
  refine wpAny_Tuple_spliced (thn (h pos pins s σ H _ I hq) fun us s1 ⟨xs, H1, I1, r, z, q⟩ => ⟨by rw [← r.length]; exact z, ?_⟩)
  have hf : H1 s1.heap.objs.size = none := I1.hok.fresh (Nat.le_refl _)
  refine ⟨.ref s1.heap.objs.size, upd H1 s1.heap.objs.size (.tup xs), I1.laid (t' := s1.toks) (fun b u e => Heap.get?_push_of_some _ e) (Nat.le_refl _) ?_, rfl, q _ hf⟩
  exact ⟨z, us, r, ⟨_, Heap.get?_push_size _ rfl, rfl, _, rfl⟩⟩
theorem pe_lst (h : PA X es t) : PE X (.List es pos) (tLst t) := by
  intro pins s σ H Q I hq
  refine wpAny_List_spliced (thn (h pos pins s σ H _ I hq) fun us s1 ⟨xs, H1, I1, r, z, q⟩ => ⟨by rw [← r.length]; exact z, ?_⟩)
  have hf : H1 s1.heap.objs.size = none := I1.hok.fresh (Nat.le_refl _)
  refine ⟨.ref s1.heap.objs.size, upd H1 s1.heap.objs.size (.lst xs), I1.laid (t' := s1.toks) (fun b u e => Heap.get?_push_of_some _ e) (Nat.le_refl _) ?_, rfl, q _ hf⟩
  exact ⟨z, us, 0, r, Heap.get?_push_size _ rfl⟩
end

/-! ### what a def promises -/
/-- a def's promise: the bound arguments in the parameters' order, the heap, the wanted end, the wanted exception -/
abbrev Sp := List V → Hp → VK → XK → Prop
/-- how an exception lies behind a call (file 08 gives it): the callers' frames, abstract heap and state ahead of the call, the wish, the exception, the state -/
abbrev CXT := List Env → Hp → Shared → XK → Value → Shared → Prop

/-- the state at a call -/
structure Env0 (P : Program) (w : World) (K : PySem.W.Frag) (mg : Str → Option Value) (base : Heap) (A : Around) (outer : List Env) (s : Shared) (H : Hp) : Prop where
  frames : A.frames = some outer
  mod : Mod K mg base
  bs : ∀ b o, base.get? b = some o → s.heap.get? b = some o ∧ H b = none
  bsz : base.objs.size ≤ s.heap.objs.size
  funs : s.heap.FunFrames base outer
  frf : ∀ b ∈ frs outer, H b = none
  hok : HOk P w H s.heap
  bare : AllBare s.gens
/-- a call's end -/
def CE (outer : List Env) (P : Program) (w : World) (H : Hp) (s : Shared) (Q : VK) (u : Value) (s' : Shared) : Prop :=
  ∃ v H', s'.os = s.os ∧ AllBare s'.gens ∧ Un (frs outer) [] H H' s.heap s'.heap ∧ HOk P w H' s'.heap ∧ RelV v u ∧ Q v H'
def CR (CX : CXT) (outer : List Env) (P : Program) (w : World) (H : Hp) (s : Shared) (Q : VK) (E : XK) (r : Result) (s' : Shared) : Prop :=
  match r with
  | .ok (.ret u) => CE outer P w H s Q u s'
  | .ok _ => False
  | .error e => CX outer H s E e s'
structure FnOk (P : Program) (w : World) (K : PySem.W.Frag) (mg : Str → Option Value) (base : Heap) (CX : CXT) (k : Nat) (f : Addr) (fd : FuncData) (ps : List Str) (sp : Sp) : Prop where
  len : ∀ vs H Q E, sp vs H Q E → vs.length = ps.length
  run : ∀ (A : Around) (outer : List Env) (s : Shared) (H : Hp) (args : Args) (us : List Value) (vs : List V) (Q : VK) (E : XK), Room k A → Env0 P w K mg base A outer s H → BindsTo s fd args (ps.zip us) → Vals vs us → sp vs H Q E →
    codeAny (model P w) A (.call (.ref f) args) (CR CX outer P w H s Q E) s
theorem FnOk.mono {P : Program} {w : World} {K : PySem.W.Frag} {mg : Str → Option Value} {base : Heap} {CX : CXT} {j k : Nat} {f : Addr} {fd : FuncData} {ps : List Str} {sp : Sp} (F : FnOk P w K mg base CX j f fd ps sp) (h : j ≤ k) :
    FnOk P w K mg base CX k f fd ps sp := ⟨F.len, fun A outer s H args us vs Q E hr => F.run A outer s H args us vs Q E (hr.mono h)⟩
/-- a weaker promise -/
theorem FnOk.imp {P : Program} {w : World} {K : PySem.W.Frag} {mg : Str → Option Value} {base : Heap} {CX : CXT} {k : Nat} {f : Addr} {fd : FuncData} {ps : List Str} {sp sp' : Sp} (F : FnOk P w K mg base CX k f fd ps sp)
    (h : ∀ vs H Q E, sp' vs H Q E → sp vs H Q E) : FnOk P w K mg base CX k f fd ps sp' :=
  ⟨fun vs H Q E q => F.len vs H Q E (h _ _ _ _ q), fun A outer s H args us vs Q E hr he hb hv hs => F.run A outer s H args us vs Q E hr he hb hv (h _ _ _ _ hs)⟩

theorem Env0.make {P : Program} {w : World} {K : PySem.W.Frag} {mg : Str → Option Value} {base : Heap} {A : Around} {outer : List Env} {s : Shared} {H : Hp} (e : Env0 P w K mg base A outer s H) (C : Addr) (us : List Value) (kw : List (Str × Value)) :
    Env0 P w K mg base (A.under (.builtin "type.__call__" ⟨.ref C :: us, kw⟩)) outer s H := ⟨by first | exact e.frames | (simpa [Around.under, Code.envs, Code.isFrame, pushEnvs] using e.frames), e.mod, e.bs, e.bsz, e.funs, e.frf, e.hok, e.bare⟩
theorem Env0.in1 {P : Program} {w : World} {K : PySem.W.Frag} {mg : Str → Option Value} {base : Heap} {A : Around} {outer : List Env} {s : Shared} {H : Hp} (e : Env0 P w K mg base A outer s H) :
    Env0 P w K mg base A.in1 outer s H := ⟨e.frames, e.mod, e.bs, e.bsz, e.funs, e.frf, e.hok, e.bare⟩

section
variable {X : Cx} {pins : List (Addr × Obj)} {σ : St} {H : Hp} {s s' : Shared}
/-- from a body: what a callee wants -/
theorem Inv.env0 (I : Inv X pins σ H s) : Env0 X.prog X.w X.K X.mg X.base X.A X.stack s H :=
  ⟨I.ok.frames, I.ok.mod, I.bs, Nat.le_trans I.ok.bsz I.sz, I.stack, I.stkFree, I.hok, I.bare⟩
/-- behind a call -/
theorem Inv.after {Q : VK} {u : Value} (I : Inv X pins σ H s) (h : CE X.stack X.prog X.w H s Q u s') : EP X pins σ Q u s' := by
  obtain ⟨v, H', os, bare, un, hok, r, q⟩ := h
  obtain ⟨hh, g, d, t, os'⟩ := s'
  obtain rfl : os' = s.os := os
  exact ⟨v, H', I.call (h' := hh) (g' := g) (d' := d) (t' := t) (ch := []) un hok bare (fun b z => absurd z (by simp)), r, q⟩
end

/-! ### calls -/
/-- f(..): the written arguments, then the defaults dvs; E: what is wanted of an exception -/
def tCall (sp : Sp) (dvs : List V) (E : XK) (t : TA) : TE := fun σ H Q => t σ H fun vs H1 => sp (vs ++ dvs) H1 Q E
/-- o.m(..) of an instance of the class at C -/
def tMeth (C : Addr) (m : Str) (sp : Sp) (dvs : List V) (E : XK) (ta : TE) (t : TA) : TE := fun σ H Q => ta σ H fun x H1 => ∃ a dx fs, x = .ref a ∧ H1 a = some (.ins C dx fs) ∧ fs.lookup m = none ∧
  t σ H1 fun vs H2 => sp (x :: (vs ++ dvs)) H2 Q E
/-- C(..): a new instance and its dict, then __init__ -/
def tMake (C : Addr) (sp : Sp) (dvs : List V) (E : XK) (t : TA) : TE := fun σ H Q => t σ H fun vs H1 => ∀ x dx, H1 x = none → H1 dx = none → dx ≠ x →
  sp (.ref x :: (vs ++ dvs)) (upd (upd H1 dx (.own x)) x (.ins C dx [])) (fun v H2 => v = .non ∧ Q (.ref x) H2) E

/-- how the parameters are bound: us the positional arguments, kw the keywords' values by name, ds the defaults that fill up -/
def Binds (K : PySem.W.Frag) (fd : FuncData) (ps : List Str) (ds : List Value) : Prop :=
  ∀ (s : Shared) (us : List Value), K.In s.heap → (us ++ ds).length = ps.length → BindsTo s fd ⟨us, []⟩ (ps.zip (us ++ ds))
/-- every parameter is given -/
theorem Binds.all {K : PySem.W.Frag} {fd : FuncData} {ps : List Str} (h : ∀ us : List Value, us.length = ps.length → bindArgs fd ⟨us, []⟩ = pure (ps.zip us)) : Binds K fd ps [] := fun s us _ hl => by
  rw [List.append_nil] at hl ⊢
  exact .of_eq (h us hl)

/-- an exception of a callee reaches what this body wants of exceptions -/
def Passes (CX : CXT) (X : Cx) (E : XK) : Prop := ∀ (pins : List (Addr × Obj)) (σ : St) (H : Hp) (s : Shared) (e : Value) (s' : Shared), Inv X pins σ H s → CX X.stack H s E e s' → X.xe e s'

section
variable {X : Cx} {CX : CXT} {k : Nat} {f C : Addr} {fd : FuncData} {ps : List Str} {sp : Sp} {dvs : List V} {ds : List Value} {E : XK} {x m : Str} {p pos apos : Pos} {e o : Expr} {es : List Expr} {ta : TE} {t : TA}

/-- the callee runs -/
theorem run_fn {pins : List (Addr × Obj)} {σ : St} {H : Hp} {s : Shared} {Q : VK} {us : List Value} {vs : List V} (F : FnOk X.prog X.w X.K X.mg X.base CX k f fd ps sp) (hr : Room k X.A) (hb : Binds X.K fd ps ds) (hd : Vals dvs ds) (hx : Passes CX X E)
    (I : Inv X pins σ H s) (r : Vals vs us) (h : sp (vs ++ dvs) H Q E) : wpAny (model X.prog X.w) X.A (call (.ref f) us) (EP X pins σ Q) X.xe s := by
  have r2 : Vals (vs ++ dvs) (us ++ ds) := r.append hd
  have hl : (us ++ ds).length = ps.length := by rw [← r2.length]; exact F.len _ _ _ _ h
  refine wpAny_call (codeAny_mono (F.run X.A X.stack s H ⟨us, []⟩ (us ++ ds) (vs ++ dvs) Q E hr I.env0 (hb s us I.kIn hl) r2 h) fun r s' hq => ?_)
  cases r with
  | error e => exact hx pins σ H s e s' I hq
  | ok fl =>
    cases fl with
    | ret u => exact I.after hq
    | next => exact False.elim hq
    | brk => exact False.elim hq
    | cont => exact False.elim hq

theorem pe_call (F : FnOk X.prog X.w X.K X.mg X.base CX k f fd ps sp) (hr : Room k X.A) (hg : Gl X x) (hm : X.mg x = some (.ref f)) (hk : PySem.W.keepIn X.K (.ref f) = true) (hb : Binds X.K fd ps ds) (hd : Vals dvs ds) (hx : Passes CX X E)
    (ha : PA X (e :: es) t) (hdb : (x == ("__debug__" : Str)) = false := by decide) (he : starEach (e :: es) X.env = (false, eval e X.env) :: starEach es X.env := by rfl) (hpl : (backTo pos (starEach es X.env)).any (·.1) = false := by rfl) :
    PE X (.Call (.Name x p) (e :: es) [] pos) (tCall sp dvs E t) := by
  intro pins s σ H Q I h
  refine wpAny_Call_Name_kw (ld_glob I hg hm ?_ hdb)
  refine PySem.W.callWith_K (h₀ := X.base) I.ok.mod.kin hk (thn (ha pos pins s σ H _ I h) fun us s1 ⟨vs, H1, I1, r, q⟩ => ⟨I1.kIn, ?_⟩) he hpl
  exact run_fn F hr hb hd hx I1 r q
theorem pe_call0 (F : FnOk X.prog X.w X.K X.mg X.base CX k f fd ps sp) (hr : Room k X.A) (hg : Gl X x) (hm : X.mg x = some (.ref f)) (hk : PySem.W.keepIn X.K (.ref f) = true) (hb : Binds X.K fd ps ds) (hd : Vals dvs ds) (hx : Passes CX X E)
    (hdb : (x == ("__debug__" : Str)) = false := by decide) : PE X (.Call (.Name x p) [] [] pos) (tCall sp dvs E tNil) := by
  intro pins s σ H Q I h
  refine wpAny_Call_Name_kw (ld_glob I hg hm ?_ hdb)
  exact PySem.W.callWith_K0 I.kIn hk (run_fn (us := []) F hr hb hd hx I .nil h)

/-- o.m(e, ..) -/
theorem pe_meth {pl : Sem Bool} (he : PE X o ta) (c : Cls X.K C) (hm : Meth X.K C m f) (F : FnOk X.prog X.w X.K X.mg X.base CX k f fd ps sp) (hr : Room k X.A) (hb : Binds X.K fd ps ds) (hd : Vals dvs ds) (hx : Passes CX X E) (ha : PA X (e :: es) t)
    (hst : starEach (e :: es) X.env = (false, eval e X.env) :: starEach es X.env := by rfl) (hpl : (backTo pos (starEach es X.env)).any (·.1) = false := by rfl)
    (ht : eval (.Call (.Attribute o m apos) (e :: es) [] pos) X.env = (do
      let ov ← eval o X.env
      standAt apos.atName
      let (f, first) ← holding [ov] (getMethod ov m pl)
      callWith pos f first (backTo pos (starEach (e :: es) X.env)) (backToKw pos (keywordEach [] X.env))) := by rfl) :
    PE X (.Call (.Attribute o m apos) (e :: es) [] pos) (tMeth C m sp dvs E ta t) := by
  intro pins s σ H Q I h
  refine PySem.W.methodCall_KW (pl := pl) (thn (he pins s σ H _ I h) fun u s1 ⟨x, H1, I1, rx, a, dx, fs, ex, ea, l, q⟩ => ?_) ht
  subst ex
  obtain rfl : u = Value.ref a := rx
  refine getmeth_ok I1 ea c hm l ?_
  refine PySem.W.callWith_K (first := [.ref a]) (h₀ := X.base) I.ok.mod.kin hm.kp (thn (ha pos pins s1 σ H1 _ I1 q) fun us s2 ⟨vs, H2, I2, r, q2⟩ => ⟨I2.kIn, ?_⟩) hst hpl
  exact run_fn (us := .ref a :: us) (vs := .ref a :: vs) F hr hb hd hx I2 (.cons rfl r) q2
/-- o.m() -/
theorem pe_meth0 {pl : Sem Bool} (he : PE X o ta) (c : Cls X.K C) (hm : Meth X.K C m f) (F : FnOk X.prog X.w X.K X.mg X.base CX k f fd ps sp) (hr : Room k X.A) (hb : Binds X.K fd ps ds) (hd : Vals dvs ds) (hx : Passes CX X E)
    (ht : eval (.Call (.Attribute o m apos) [] [] pos) X.env = (do
      let ov ← eval o X.env
      standAt apos.atName
      let (f, first) ← holding [ov] (getMethod ov m pl)
      callWith pos f first (backTo pos (starEach [] X.env)) (backToKw pos (keywordEach [] X.env))) := by rfl) :
    PE X (.Call (.Attribute o m apos) [] [] pos) (tMeth C m sp dvs E ta tNil) := by
  intro pins s σ H Q I h
  refine PySem.W.methodCall_KW (pl := pl) (thn (he pins s σ H _ I h) fun u s1 ⟨x, H1, I1, rx, a, dx, fs, ex, ea, l, q⟩ => ?_) ht
  subst ex
  obtain rfl : u = Value.ref a := rx
  refine getmeth_ok I1 ea c hm l ?_
  exact PySem.W.callWith_K0 (first := [.ref a]) I1.kIn hm.kp (run_fn (us := [.ref a]) (vs := [.ref a]) F hr hb hd hx I1 (.cons rfl .nil) q)

/-- what a class must have to be made -/
structure Mk (K : PySem.W.Frag) (C f : Addr) : Prop where
  makes : PySem.W.makesIn K C = true
  init : PySem.W.findIn K (.ref C) "__init__" = some (some (.ref f))
  fn : PySem.W.isFn K (.ref f) = true
  kp : PySem.W.keepIn K (.ref C) = true

theorem run_make {pins : List (Addr × Obj)} {σ : St} {H : Hp} {s : Shared} {Q : VK} {us : List Value} {vs : List V} (M : Mk X.K C f) (F : FnOk X.prog X.w X.K X.mg X.base CX k f fd ps sp) (hr : Room (k + 1) X.A) (hb : Binds X.K fd ps ds) (hd : Vals dvs ds)
    (hx : Passes CX X E) (I : Inv X pins σ H s) (r : Vals vs us)
    (h : ∀ x dx, H x = none → H dx = none → dx ≠ x → sp (.ref x :: (vs ++ dvs)) (upd (upd H dx (.own x)) x (.ins C dx [])) (fun v H2 => v = .non ∧ Q (.ref x) H2) E) :
    wpAny (model X.prog X.w) X.A (call (.ref C) us) (EP X pins σ Q) X.xe s := by
  have hq := h (s.heap.objs.size + 1) s.heap.objs.size (I.hok.fresh (Nat.le_succ _)) (I.hok.fresh (Nat.le_refl _)) (Nat.ne_of_lt (Nat.lt_succ_self _))
  have I2 := Inv.made (C := C) I
  have r2 : Vals (V.ref (s.heap.objs.size + 1) :: (vs ++ dvs)) (Value.ref (s.heap.objs.size + 1) :: (us ++ ds)) := .cons rfl (r.append hd)
  have hl : (Value.ref (s.heap.objs.size + 1) :: us ++ ds).length = ps.length := by
    have e := r2.length
    rw [F.len _ _ _ _ hq] at e
    exact e.symm
  refine wpAny_call (make_map (f := f) I.kIn M.makes M.init (beq_iff_eq.mp M.fn) (codeAny_mono (F.run _ X.stack _ _ ⟨Value.ref (s.heap.objs.size + 1) :: us, []⟩ (Value.ref (s.heap.objs.size + 1) :: (us ++ ds)) _ _ E (hr.make C us [])
    (I2.env0.make C us []) (hb _ (Value.ref (s.heap.objs.size + 1) :: us) I2.kIn hl) r2 hq) fun r s' hq' => ?_))
  cases r with
  | error e => exact hx pins σ _ _ e s' I2 hq'
  | ok fl =>
    cases fl with
    | ret u =>
      obtain ⟨v, H', I3, rv, ev, q3⟩ := I2.after hq'
      subst ev
      exact ⟨rv, ⟨V.ref (s.heap.objs.size + 1), H', I3, rfl, q3⟩⟩
    | next => exact False.elim hq'
    | brk => exact False.elim hq'
    | cont => exact False.elim hq'
theorem pe_make (M : Mk X.K C f) (F : FnOk X.prog X.w X.K X.mg X.base CX k f fd ps sp) (hr : Room (k + 1) X.A) (hg : Gl X x) (hm : X.mg x = some (.ref C)) (hb : Binds X.K fd ps ds) (hd : Vals dvs ds) (hx : Passes CX X E)
    (ha : PA X (e :: es) t) (hdb : (x == ("__debug__" : Str)) = false := by decide) (he : starEach (e :: es) X.env = (false, eval e X.env) :: starEach es X.env := by rfl) (hpl : (backTo pos (starEach es X.env)).any (·.1) = false := by rfl) :
    PE X (.Call (.Name x p) (e :: es) [] pos) (tMake C sp dvs E t) := by
  intro pins s σ H Q I h
  refine wpAny_Call_Name_kw (ld_glob I hg hm ?_ hdb)
  refine PySem.W.callWith_K (h₀ := X.base) I.ok.mod.kin M.kp (thn (ha pos pins s σ H _ I h) fun us s1 ⟨vs, H1, I1, r, q⟩ => ⟨I1.kIn, ?_⟩) he hpl
  exact run_make M F hr hb hd hx I1 r q
theorem pe_make0 (M : Mk X.K C f) (F : FnOk X.prog X.w X.K X.mg X.base CX k f fd ps sp) (hr : Room (k + 1) X.A) (hg : Gl X x) (hm : X.mg x = some (.ref C)) (hb : Binds X.K fd ps ds) (hd : Vals dvs ds) (hx : Passes CX X E)
    (hdb : (x == ("__debug__" : Str)) = false := by decide) : PE X (.Call (.Name x p) [] [] pos) (tMake C sp dvs E tNil) := by
  intro pins s σ H Q I h
  refine wpAny_Call_Name_kw (ld_glob I hg hm ?_ hdb)
  exact PySem.W.callWith_K0 I.kIn M.kp (run_make (us := []) M F hr hb hd hx I .nil h)
end

/-! ### keywords -/
/-- the values of the keywords, from the left -/
def PK (X : Cx) (kws : List Keyword) (t : TA) : Prop :=
  ∀ (pos : Pos) (pins : List (Addr × Obj)) (s : Shared) (σ : St) (H : Hp) (Q : List V → Hp → Prop), Inv X pins σ H s → t σ H Q → wpAny (model X.prog X.w) X.A (evalAll ((backToKw pos (keywordEach kws X.env)).map (·.2))) (AP X pins σ Q) X.xe s
section
variable {X : Cx} {CX : CXT} {k : Nat} {f C : Addr} {fd : FuncData} {ps ks : List Str} {sp : Sp} {E : XK} {x m : Str} {p pos apos kpos : Pos} {e o : Expr} {es : List Expr} {kws : List Keyword} {te ta : TE} {t tk : TA} {nm : Option Str}
theorem pk_nil : PK X [] tNil := fun _ _ _ _ H Q I h => wpAny_evalAll_nil ⟨[], H, I, .nil, h⟩
theorem pk_cons (ha : PE X e te) (hr : PK X kws t) : PK X (⟨nm, e, kpos⟩ :: kws) (tCons te t) := by
  intro pos pins s σ H Q I h
  show wpAny _ _ (evalAll ((do let v ← eval e X.env; standAt pos; pure v) :: (backToKw pos (keywordEach kws X.env)).map (·.2))) _ _ s
  refine wpAny_evalAll_cons (wpAny_bind (thn (ha pins s σ H _ I h) fun u s1 ⟨x, H1, I1, r1, q1⟩ => wpAny_bind (wpAny_standAt (wpAny_pure ?_))))
  exact thn (hr pos pins s1 σ H1 _ I1 q1) fun us s2 ⟨xs, H2, I2, r2, q2⟩ => ⟨x :: xs, H2, I2, .cons r1 r2, q2⟩

/-- how a call with keywords binds: g puts the positional values us and the keywords' values ws (names ks) in the parameters' order, defaults among them -/
structure KBinds (K : PySem.W.Frag) (fd : FuncData) (ps ks : List Str) (g : List Value → List Value → List Value) (gV : List V → List V → List V) : Prop where
  to : ∀ (s : Shared) (us ws : List Value), K.In s.heap → (g us ws).length = ps.length → BindsTo s fd ⟨us, ks.zip ws⟩ (ps.zip (g us ws))
  rel : ∀ {vs : List V} {us : List Value} {zs : List V} {ws : List Value}, Vals vs us → Vals zs ws → Vals (gV vs zs) (g us ws)
def tCallK (sp : Sp) (gV : List V → List V → List V) (E : XK) (t tk : TA) : TE := fun σ H Q => t σ H fun vs H1 => tk σ H1 fun zs H2 => sp (gV vs zs) H2 Q E
variable {g : List Value → List Value → List Value} {gV : List V → List V → List V}
theorem run_fnk {pins : List (Addr × Obj)} {σ : St} {H : Hp} {s : Shared} {Q : VK} {us ws : List Value} {vs zs : List V} (F : FnOk X.prog X.w X.K X.mg X.base CX k f fd ps sp) (hr : Room k X.A) (hb : KBinds X.K fd ps ks g gV) (hx : Passes CX X E)
    (I : Inv X pins σ H s) (r : Vals vs us) (rz : Vals zs ws) (h : sp (gV vs zs) H Q E) : wpAny (model X.prog X.w) X.A (call (.ref f) us (ks.zip ws)) (EP X pins σ Q) X.xe s := by
  have r2 := hb.rel r rz
  have hl : (g us ws).length = ps.length := by rw [← r2.length]; exact F.len _ _ _ _ h
  refine wpAny_call (codeAny_mono (F.run X.A X.stack s H ⟨us, ks.zip ws⟩ (g us ws) (gV vs zs) Q E hr I.env0 (hb.to s us ws I.kIn hl) r2 h) fun r s' hq => ?_)
  cases r with
  | error e => exact hx pins σ H s e s' I hq
  | ok fl =>
    cases fl with
    | ret u => exact I.after hq
    | next => exact False.elim hq
    | brk => exact False.elim hq
    | cont => exact False.elim hq
/-- f(e, .., k = v, ..) -/
theorem pe_callK (F : FnOk X.prog X.w X.K X.mg X.base CX k f fd ps sp) (hr : Room k X.A) (hg : Gl X x) (hm : X.mg x = some (.ref f)) (hk : PySem.W.keepIn X.K (.ref f) = true) (hb : KBinds X.K fd ps ks g gV) (hx : Passes CX X E)
    (ha : PA X (e :: es) t) (hkw : PK X kws tk) (hall : (backToKw pos (keywordEach kws X.env)).all (·.1.isSome) = true := by rfl) (hks : (backToKw pos (keywordEach kws X.env)).filterMap (·.1) = ks := by rfl)
    (hdb : (x == ("__debug__" : Str)) = false := by decide) (he : starEach (e :: es) X.env = (false, eval e X.env) :: starEach es X.env := by rfl)
    (hpl : ((backTo pos (starEach (e :: es) X.env)).any (·.1) || (backToKw pos (keywordEach kws X.env)).any (·.1.isNone)) = false := by rfl) :
    PE X (.Call (.Name x p) (e :: es) kws pos) (tCallK sp gV E t tk) := by
  intro pins s σ H Q I h
  refine wpAny_Call_Name_kw (ld_glob I hg hm ?_ hdb)
  refine PySem.W.callWith_KW (h₀ := X.base) I.ok.mod.kin hk hall (thn (ha pos pins s σ H _ I h) fun us s1 ⟨vs, H1, I1, r, q⟩ => ?_) hpl he
  refine thn (hkw pos pins s1 σ H1 _ I1 q) fun ws s2 ⟨zs, H2, I2, rz, q2⟩ => ⟨I2.kIn, ?_⟩
  rw [hks]
  exact run_fnk F hr hb hx I2 r rz q2
end

/-! ### a def's body keeps its promise -/
/-- names: the parameters first -/
structure FnScope (N P : List Str) (sc : Scope) : Prop where
  kind : sc.kind = .function
  co : sc.isCoroutine = false
  gen : sc.isGenerator = false
  nd : N.Nodup
  pre : N.take P.length = P
  par : ∀ x ∈ P, sc.names.lookup x = some .local ∨ sc.names.lookup x = some .cell
  nofree : ∀ y ∈ sc.names, y.2 ≠ .free

theorem bindL_out {kindOf : Str → Option NameKind} {x : Str} : ∀ {binds : List (Str × Value)} {m : Str → Option Value}, (∀ v, (x, v) ∉ binds) → bindL kindOf binds m x = m x
  | [], _, _ => rfl
  | (n, v) :: r, m, h => by
    unfold bindL
    rw [bindL_out fun w hw => h w (List.mem_cons_of_mem _ hw)]
    split
    · have : x ≠ n := by rintro rfl; exact h v List.mem_cons_self
      simp [this]
    · rfl
theorem bindC_out {kindOf : Str → Option NameKind} {x : Str} : ∀ {binds : List (Str × Value)} {m : Str → Option Value}, (∀ v, (x, v) ∉ binds) → bindC kindOf binds m x = m x
  | [], _, _ => rfl
  | (n, v) :: r, m, h => by
    unfold bindC
    rw [bindC_out fun w hw => h w (List.mem_cons_of_mem _ hw)]
    split
    · rfl
    · have : x ≠ n := by rintro rfl; exact h v List.mem_cons_self
      simp [this]
theorem bindL_get {kindOf : Str → Option NameKind} {x : Str} {v : Value} : ∀ {P : List Str} {vs : List Value} {i : Nat} {m : Str → Option Value}, P.Nodup → P[i]? = some x → vs[i]? = some v → kindOf x = some .local →
    bindL kindOf (P.zip vs) m x = some v
  | [], _, _, _, _, h, _, _ => by simp at h
  | _ :: _, [], _, _, _, _, h, _ => by simp at h
  | p :: P, w :: vs, 0, m, nd, h1, h2, hk => by
    simp at h1 h2; subst h1; subst h2
    show bindL kindOf ((p, w) :: P.zip vs) m p = _
    unfold bindL
    rw [bindL_out fun v hv => (List.nodup_cons.mp nd).1 (List.of_mem_zip hv).1, if_pos hk]
    simp
  | p :: P, w :: vs, i + 1, m, nd, h1, h2, hk => by
    show bindL kindOf ((p, w) :: P.zip vs) m x = _
    unfold bindL
    exact bindL_get (i := i) (List.nodup_cons.mp nd).2 (by simpa using h1) (by simpa using h2) hk
theorem bindC_get {kindOf : Str → Option NameKind} {x : Str} {v : Value} : ∀ {P : List Str} {vs : List Value} {i : Nat} {m : Str → Option Value}, P.Nodup → P[i]? = some x → vs[i]? = some v → kindOf x ≠ some .local →
    bindC kindOf (P.zip vs) m x = some v
  | [], _, _, _, _, h, _, _ => by simp at h
  | _ :: _, [], _, _, _, _, h, _ => by simp at h
  | p :: P, w :: vs, 0, m, nd, h1, h2, hk => by
    simp at h1 h2; subst h1; subst h2
    show bindC kindOf ((p, w) :: P.zip vs) m p = _
    unfold bindC
    rw [bindC_out fun v hv => (List.nodup_cons.mp nd).1 (List.of_mem_zip hv).1, if_neg hk]
    simp
  | p :: P, w :: vs, i + 1, m, nd, h1, h2, hk => by
    show bindC kindOf ((p, w) :: P.zip vs) m x = _
    unfold bindC
    exact bindC_get (i := i) (List.nodup_cons.mp nd).2 (by simpa using h1) (by simpa using h2) hk

/-- the names' values at the entry -/
def start (N : List Str) (vs : List V) : St := vs.map some ++ List.replicate (N.length - vs.length) none

/-- the context of a def's body, at its entry; an exception leaves the frame, then lies as CX says -/
def cxOf (CX : CXT) (P : Program) (w : World) (K : PySem.W.Frag) (mg : Str → Option Value) (base : Heap) (N : List Str) (qual : Str) (scope : Scope) (f : Addr) (cd : Value) (A : Around) (outer : List Env) (s : Shared) (H : Hp) (E : XK) : Cx where
  prog := P
  w := w
  K := K
  mg := mg
  base := base
  A := A.deeper (envOfC qual scope s.heap.objs.size f cd)
  N := N
  s₀ := s
  H₀ := H
  env := envOfC qual scope s.heap.objs.size f cd
  outer := outer
  stack := envOfC qual scope s.heap.objs.size f cd :: outer
  ex := []
  calm := true
  fn := fun _ => true
  pn := []
  xe := fun e s' => wpAny (model P w) (A.deeper (envOfC qual scope s.heap.objs.size f cd)) (leaving (envOfC qual scope s.heap.objs.size f cd) e) (fun _ s'' => CX outer H s E e s'') (fun e' s'' => CX outer H s E e' s'') s'

theorem cell_has {sc : Scope} {n : Nat} {x : Str} (h : sc.names.lookup x = some .cell) : ∃ c, (cellsFrom n sc.names []).lookup x = some c := by
  have q := PySem.W.cellsFrom_some sc.names n [] (.inl h)
  exact Option.isSome_iff_exists.mp q

theorem inv_start {CX : CXT} {P : Program} {w : World} {K : PySem.W.Frag} {mg : Str → Option Value} {base : Heap} {N ps : List Str} {qual : Str} {scope : Scope} {f : Addr} {cd : Value} {A : Around} {outer : List Env} {s s1 : Shared} {H : Hp} {E : XK} {us : List Value} {vs : List V}
    (S : FnScope N ps scope) (hd : A.handled = none) (e0 : Env0 P w K mg base A outer s H) (hl : vs.length = ps.length) (r : Vals vs us)
    (x : InCallC s s.heap.objs.size (bindL (envOfC qual scope s.heap.objs.size f cd).kindOf (ps.zip us) fun _ => none) (cellsFrom (s.heap.objs.size + 1) scope.names []) (bindC (envOfC qual scope s.heap.objs.size f cd).kindOf (ps.zip us) fun _ => none) s1) :
    Inv (cxOf CX P w K mg base N qual scope f cd A outer s H E) [] (start N vs) H s1 := by
  have hpl : ps.length ≤ N.length := by have := congrArg List.length S.pre; rw [List.length_take] at this; omega
  obtain ⟨h1, tk, rfl, hk⟩ := x.done
  have noA : ∀ b : Addr, b ∉ (cxOf CX P w K mg base N qual scope f cd A outer s H E).ex := fun b z => absurd (show b ∈ ([] : List Addr) from z) (by simp)
  refine ⟨⟨e0.mod, S.kind, rfl, rfl, Nat.le_refl _, fun y z c h1 h2 => ?_, fun y hy => ?_, fun y c _ h => ?_, fun _ => hd, Around.frames_deeper e0.frames, .inr ⟨rfl, rfl⟩, fun b z => absurd z (noA b), e0.bs, e0.bsz, fun b _ _ => noA b, fun b z => absurd z (noA b), e0.funs, e0.frf⟩,
    rfl, e0.bare, Un.kept hk, ⟨_, x.toInCall.ns, fun i y v h1 h2 h3 => ?_⟩, fun y c h => ⟨_, x.cell y c h⟩, e0.hok.fresh (Nat.le_refl _), fun y c h => ?_, fun p hp => absurd (show p ∈ ([] : List (Addr × Obj)) from hp) (by simp), e0.hok.kept hk, ?_⟩
  · exact name_of_addr x.apart (PySem.mem_of_lookup h1) (PySem.mem_of_lookup h2)
  · have hy : scope.names.lookup y = some .cell ∨ scope.names.lookup y = some .free := hy
    rcases hy with hy | hy
    · exact cell_has hy
    · exact absurd rfl (S.nofree _ (PySem.mem_of_lookup hy))
  · exact Nat.le_of_lt (x.above y c (PySem.mem_of_lookup h))
  · have hi : i < vs.length := by
      unfold start at h2
      by_cases hi : i < vs.length
      · exact hi
      · rw [List.getElem?_append_right (by simpa using hi)] at h2
        rw [List.getElem?_replicate] at h2
        split at h2 <;> cases h2
    have ha : vs[i]? = some v := by
      unfold start at h2
      rw [List.getElem?_append_left (by simpa using hi), List.getElem?_map] at h2
      cases e : vs[i]? with
      | none => rw [e] at h2; cases h2
      | some a => rw [e] at h2; cases h2; rfl
    obtain ⟨u, hu, rv⟩ := r.get ha
    have hp : ps[i]? = some y := by
      rw [← S.pre, List.getElem?_take_of_lt (by omega)]; exact h1
    have ndP : ps.Nodup := by rw [← S.pre]; exact S.nd.sublist (List.take_sublist _ _)
    refine ⟨u, rv, ?_⟩
    rcases S.par y (List.mem_of_getElem? hp) with k | k
    · exact .inl ⟨k, bindL_get ndP hp hu k⟩
    · obtain ⟨c, e⟩ := cell_has (n := s.heap.objs.size + 1) k
      refine .inr ⟨.inl k, c, e, ?_⟩
      have q := x.cell y c e
      rw [bindC_get ndP hp hu (by show scope.names.lookup y ≠ _; rw [k]; decide)] at q
      exact q
  · exact e0.hok.fresh (Nat.le_of_lt (x.above y c (PySem.mem_of_lookup h)))
  · unfold start
    show _ = N.length
    rw [List.length_append, List.length_map, List.length_replicate]
    omega

/-- THE RULE: a def (or a method) of the text, by its body. The body's reading t is chosen for each entry; it is run at the parameters' values -/
theorem fn_of {CX : CXT} {P : Program} {w : World} {K : PySem.W.Frag} {mg : Str → Option Value} {base : Heap} {k : Nat} {f : Addr} {name qual : Str} {params : Arguments} {body : List Stmt} {scope : Scope} {dV kV doc pm cdv ct oc : Value} {an od : Option Addr}
    {osl : Array (Option Value)} {N ps : List Str} {sp : Sp} (lk : K.lookup f = some ⟨oc, od, .func (PySem.W.fnOf name qual params body scope dV kV doc pm an cdv ct), osl⟩) (hcd : PySem.W.codeIn K cdv qual = true) (S : FnScope N ps scope)
    (len : ∀ vs H Q E, sp vs H Q E → vs.length = ps.length)
    (hbody : ∀ (A : Around) (outer : List Env) (s : Shared) (H : Hp) (vs : List V) (Q : VK) (E : XK), Room k (A.deeper (envOfC qual scope s.heap.objs.size f cdv)) → sp vs H Q E →
      ∃ t, PSs (cxOf CX P w K mg base N qual scope f cdv A outer s H E) body t ∧ t { nx := fun _ H' => Q .non H', rt := Q } (start N vs) H) :
    FnOk P w K mg base CX (k + 1) f (PySem.W.fnOf name qual params body scope dV kV doc pm an cdv ct) ps sp := by
  refine ⟨len, fun A outer s H args us vs Q E hr e0 hb r hsp => ?_⟩
  have hl := len _ _ _ _ hsp
  have KX : K.In s.heap := e0.mod.kin.keeps fun b o e => (e0.bs b o e).1
  have lim : s.heap.NoLimit := e0.mod.nolimit.keeps fun b o e => (e0.bs b o e).1
  have hkind : ∀ y ∈ ps.zip us, scope.names.lookup y.1 = some .local ∨ (scope.names.lookup y.1 = some .cell ∧ ((cellsFrom (s.heap.objs.size + 1) scope.names []).lookup y.1).isSome = true) := fun ⟨n, v⟩ hy => by
    rcases S.par n (List.of_mem_zip hy).1 with q | q
    · exact .inl q
    · exact .inr ⟨q, PySem.W.cellsFrom_some _ _ _ (.inl q)⟩
  refine codeAny_call_function hr.depth (KX _ _ lk) rfl S.co S.gen rfl (PySem.W.codeRec_of KX hcd) (hb _ _ _ _ ?_)
  refine wpAny_newFunctionEnv_cells S.kind hkind fun env he s1 x => ?_
  subst he
  refine ⟨lim.keeps x.toInCall.keep, codeAny_func ?_⟩
  obtain ⟨t, ht, hq⟩ := hbody A outer s H vs Q E (hr.deeper _) hsp
  have I : Inv (cxOf CX P w K mg base N qual scope f cdv A outer s H E) [] (start N vs) H s1 := inv_start S hr.hd e0 hl r x
  refine wpAny_mono (ht [] s1 (start N vs) H _ I hq) (fun fl s' hs => ?_) fun e s' hs => hs
  have fin : ∀ {σ' : St} {H' : Hp} {v : V} {u : Value}, Inv (cxOf CX P w K mg base N qual scope f cdv A outer s H E) [] σ' H' s' → RelV v u → Q v H' → CE outer P w H s Q u s' :=
    fun {σ' H' v u} J rv q => ⟨v, H', J.os, J.bare, J.base, J.hok, rv, q⟩
  cases fl with
  | ret u =>
    obtain ⟨v, σ', H', J, rv, q⟩ := hs
    exact fin J rv q
  | next =>
    obtain ⟨σ', H', J, q⟩ := hs
    exact fin (v := V.non) (u := Value.none) J rfl q
  | brk =>
    obtain ⟨_, _, _, q⟩ := hs
    exact False.elim q
  | cont =>
    obtain ⟨_, _, _, q⟩ := hs
    exact False.elim q
end L2

namespace L2
open PySem PySem.Spec PyProof.Rows
section
variable {X : Cx} {x : Str} {p pos : Pos} {e : Expr} {es : List Expr} {t : TA} {id T : String} {r : List V → Hp → VK → Prop}

def tCB (r : List V → Hp → VK → Prop) (t : TA) : TE := fun σ H Q => t σ H fun vs H1 => r vs H1 Q
/-- f(e, ..), f a built-in function -/
theorem pe_callB (hc : CallR X (.builtin id) r) (hg : Gl X x) (hm : X.mg x = none) (hv : bootBuiltins x = some (.builtin id)) (ha : PA X (e :: es) t) (hn : x ≠ "__name__" := by decide) (hdb : (x == ("__debug__" : Str)) = false := by decide)
    (he : starEach (e :: es) X.env = (false, eval e X.env) :: starEach es X.env := by rfl) (hpl : (backTo pos (starEach es X.env)).any (·.1) = false := by rfl) : PE X (.Call (.Name x p) (e :: es) [] pos) (tCB r t) := by
  intro pins s σ H Q I h
  refine wpAny_Call_Name_kw (ld_blt I hg hm hv ?_ hn hdb)
  exact PyProof.Rows.callWith_builtin1 (thn (ha pos pins s σ H _ I h) fun us s1 ⟨vs, H1, I1, r1, q1⟩ => hc pins s1 σ H1 vs us Q I1 r1 q1) he hpl
/-- T(e, ..), T a built-in type -/
theorem pe_callTy (hc : CallR X (.type T) r) (hg : Gl X x) (hm : X.mg x = none) (hv : bootBuiltins x = some (.type T)) (ha : PA X (e :: es) t) (hn : x ≠ "__name__" := by decide) (hdb : (x == ("__debug__" : Str)) = false := by decide)
    (he : starEach (e :: es) X.env = (false, eval e X.env) :: starEach es X.env := by rfl) (hpl : (backTo pos (starEach es X.env)).any (·.1) = false := by rfl) : PE X (.Call (.Name x p) (e :: es) [] pos) (tCB r t) := by
  intro pins s σ H Q I h
  refine wpAny_Call_Name_kw (ld_blt I hg hm hv ?_ hn hdb)
  exact PyProof.Rows.callWith_type1 (thn (ha pos pins s σ H _ I h) fun us s1 ⟨vs, H1, I1, r1, q1⟩ => hc pins s1 σ H1 vs us Q I1 r1 q1) he hpl
/-- T() -/
theorem pe_callTy0 (hc : CallR X (.type T) r) (hg : Gl X x) (hm : X.mg x = none) (hv : bootBuiltins x = some (.type T)) (hn : x ≠ "__name__" := by decide) (hdb : (x == ("__debug__" : Str)) = false := by decide) :
    PE X (.Call (.Name x p) [] [] pos) (tCB r tNil) := by
  intro pins s σ H Q I h
  refine wpAny_Call_Name_kw (ld_blt I hg hm hv ?_ hn hdb)
  exact PyProof.Rows.callWith_type0 (hc pins s σ H [] [] Q I .nil h)
end
end L2

namespace HT
open PySem PyProof.Rows

/-- t < u of tuples of ints -/
def lexLt : List Int → List Int → Bool
  | [], [] => false
  | [], _ :: _ => true
  | _ :: _, [] => false
  | x :: xs, y :: ys => if x = y then lexLt xs ys else decide (x < y)
theorem lexLt_cons (x y : Int) (xs ys : List Int) : lexLt (x :: xs) (y :: ys) = if x = y then lexLt xs ys else decide (x < y) := rfl
theorem lexLt_nil_nil : lexLt [] [] = false := rfl
theorem lexLt_nil_cons (y : Int) (ys : List Int) : lexLt [] (y :: ys) = true := rfl
theorem lexLt_cons_nil (x : Int) (xs : List Int) : lexLt (x :: xs) [] = false := rfl

theorem eqAt_int (A : Around) (s : Shared) (a : Int) (t : Tok) (c : Int) (u : Tok) : ∃ e, SeqAt.EqAt A s (.int a t) (.int c u) e ∧ (e = true ↔ a = c) :=
  ⟨(a == c), SeqAt.EqAt.int_int a t c u, by simp⟩
theorem rcLt_int (A : Around) (s : Shared) (a : Int) (t : Tok) (c : Int) (u : Tok) (prog : Program) (w : World) (E : Value → Shared → Prop) (Q : Value → Shared → Prop) (h : Q (.bool (decide (a < c))) s) :
    wpAny (model prog w) A (richCompare .Lt (.int a t) (.int c u)) Q E s :=
  (PyProof.Rows.lt_int h : wpAny (model prog w) A (compareOp .Lt (.int a t) (.int c u)) Q E s)

section
open PySem.SeqAt
open PySem.AutoSeq1 (wpAny_loadPart')
open PySem.MeetsSeq PySem.MeetsSeq2 PySem.MeetsSeq3

theorem tuple_lt_ints (l b : Addr) (items items2 : Array Value) (n n2 : Nat) (dd dd2 : Option Addr) (sl sl2 : Array (Option Value)) (ns ms : List Int) (hi : IntsAre items.toList ns) (hj : IntsAre items2.toList ms) :
    Meets (Builtin.«tuple.__lt__» ⟨[.ref l, .ref b], []⟩)
      (fun _ R s => s.heap.get? l = some { cls := .type "tuple", dict := dd, data := .seq items n, slots := sl } ∧ s.heap.get? b = some { cls := .type "tuple", dict := dd2, data := .seq items2 n2, slots := sl2 } ∧
        R (.ok (.ret (.bool (lexLt ns ms)))) s) :=
  .of_wp fun prog w A R s h => by
    obtain ⟨hp, g, d, tk, os⟩ := s; obtain ⟨hl, hb, h⟩ := h
    have f2 := AutoSeq1.sub_tuple_tuple
    have z1 : items.size = ns.length := by rw [← hi.length]; simp
    have z2 : items2.size = ms.length := by rw [← hj.length]; simp
    wp_walk using wpAny_loadPart' hl, wpAny_loadPart' hb, wpAny_forIn_list _ (fun rest b s' => b.1 = none ∧ s' = ⟨hp, g, d, tk, os⟩ ∧ ∃ (vs ws : List Value) (ns' ms' : List Int), rest = vs.zip ws ∧
      IntsAre vs ns' ∧ IntsAre ws ms' ∧ ns'.length + items2.size = ms'.length + items.size ∧ R (.ok (.ret (.bool (lexLt ns' ms')))) ⟨hp, g, d, tk, os⟩) _
    case turn =>
      rintro ⟨y, x⟩ rest b s' ⟨hb', rfl, vs, ws, ns', ms', hz, hvi, hwi, hlen, hR⟩
      cases hvi with
      | nil => rw [List.zip_nil_left] at hz; cases hz
      | cons a t hvi' =>
        cases hwi with
        | nil => rw [List.zip_nil_right] at hz; cases hz
        | cons c u hwi' =>
          rw [List.zip_cons_cons] at hz
          injection hz with hyx hrest
          injection hyx with hy hx
          subst hy hx
          rw [lexLt_cons] at hR
          simp only [List.length_cons] at hlen
          obtain ⟨e, he, hiff⟩ := eqAt_int A.in1 ⟨hp, g, d, tk, os⟩ a t c u
          refine wpAny_bind (he prog w _ _ ?_)
          cases e with
          | true =>
            rw [if_pos (hiff.mp rfl)] at hR
            wp_walk
            exact ⟨rfl, rfl, _, _, _, _, hrest, hvi', hwi', by omega, hR⟩
          | false =>
            rw [if_neg (fun q => absurd (hiff.mpr q) Bool.false_ne_true)] at hR
            have hri := rcLt_int A.in1 ⟨hp, g, d, tk, os⟩ a t c u prog w
            wp_walk using hri
            exact ⟨_, rfl, by simpa using hR⟩
    case fin =>
      rintro ⟨b1, b2⟩ s' ⟨hb', rfl, vs, ws, ns', ms', hz, hvi, hwi, hlen, hR⟩
      simp only at hb'
      subst hb'
      have hv : lexLt ns' ms' = decide (items.size < items2.size) := by
        cases hvi with
        | nil =>
          cases hwi with
          | nil =>
            simp only [List.length_nil] at hlen
            rw [lexLt_nil_nil]
            exact (decide_eq_false (by omega)).symm
          | cons c u hw =>
            simp only [List.length_nil, List.length_cons] at hlen
            rw [lexLt_nil_cons]
            exact (decide_eq_true (by omega)).symm
        | cons a t hv =>
          cases hwi with
          | nil =>
            simp only [List.length_nil, List.length_cons] at hlen
            rw [lexLt_cons_nil]
            exact (decide_eq_false (by omega)).symm
          | cons c u hw =>
            rw [List.zip_cons_cons] at hz
            cases hz
      rw [hv] at hR
      wp_walk
      exact ⟨_, rfl, by simpa [Builtin.Tuple.tupleCompareSizes] using hR⟩
    case h =>
      exact ⟨rfl, rfl, items.toList, items2.toList, ns, ms, rfl, hi, hj, by omega, h⟩
end

section
variable {prog : Program} {w : World} {A : Around} {E : Value → Shared → Prop} {s : Shared}

theorem lt_tupInts {l b : Addr} {items items2 : Array Value} {ns ms : List Int} {Q : Value → Shared → Prop} (hl : IsTup s.heap l items) (hb : IsTup s.heap b items2) (hi : IntsAre items.toList ns) (hj : IntsAre items2.toList ms)
    (hu : A.units < cLine) (h : Q (.bool (lexLt ns ms)) s) : wpAny (model prog w) A (compareOp .Lt (.ref l) (.ref b)) Q E s := by
  obtain ⟨⟨cls, dd, data, sl⟩, ho, hc, n, hd⟩ := id hl
  obtain ⟨⟨cls2, dd2, data2, sl2⟩, ho2, hc2, n2, hd2⟩ := id hb
  simp only at hc hd hc2 hd2
  subst hc hd hc2 hd2
  exact richCompare_meets_room (op := .Lt) ⟨_, ho, rfl⟩ ⟨_, ho2, rfl⟩ PySem.F.slot_tuple_lt PySem.F.entry_tuple_lt (PySem.F.args_tuple_lt_2 _ _) (tuple_lt_ints l b items items2 n n2 dd dd2 sl sl2 ns ms hi hj)
    ⟨ho, ho2, show Value.bool (lexLt ns ms) ≠ Value.notImplemented ∧ Q (.bool (lexLt ns ms)) s from ⟨(fun x => nomatch x), h⟩⟩ hu

/-- t + u, t not empty -/
theorem cat_tup {t b : Addr} {vs ws : List Value} {Q : Value → Shared → Prop} (ht : IsTup s.heap t vs.toArray) (hb : IsTup s.heap b ws.toArray) (hv : vs ≠ [])
    (h1 : ws = [] → Q (.ref t) s) (h2 : ws ≠ [] → Q (.ref s.heap.objs.size) { s with heap := s.heap.push { cls := .type "tuple", data := .seq (vs ++ ws).toArray } })
    (hsz : vs.length + ws.length ≤ sizeLine) : wpAny (model prog w) A (binaryOp .Add (.ref t) (.ref b)) Q E s := by
  obtain ⟨⟨cls, dd, data, sl⟩, ho, hc, n, hd⟩ := id ht
  obtain ⟨⟨cls2, dd2, data2, sl2⟩, ho2, hc2, n2, hd2⟩ := id hb
  simp only at hc hd hc2 hd2
  subst hc hd hc2 hd2
  have e : vs.toArray ++ ws.toArray = (vs ++ ws).toArray := by simp
  by_cases hw : ws = []
  · exact concat_meets ⟨_, ho, rfl⟩ ⟨_, ho2, rfl⟩ noFill_tuple_add seq_tuple_add PySem.F.slot_tuple_add PySem.F.entry_tuple_add (PySem.F.args_tuple_add_2 _ _)
      (tuple_addW1 t b vs.toArray ws.toArray n n2 dd dd2 sl sl2 (by simpa using hv) (by simp [hw])) ⟨ho, ho2, h1 hw⟩
  · refine concat_meets ⟨_, ho, rfl⟩ ⟨_, ho2, rfl⟩ noFill_tuple_add seq_tuple_add PySem.F.slot_tuple_add PySem.F.entry_tuple_add (PySem.F.args_tuple_add_2 _ _)
      (tuple_addW2 t b vs.toArray ws.toArray n n2 dd dd2 sl sl2 (by simpa using hv) (by simpa using hw) (by rw [List.size_toArray, List.size_toArray]; exact hsz)) ⟨ho, ho2, ?_⟩
    rw [e]
    exact h2 hw

/-! ### t[a:b], not the whole -/
/-- a slice's bound as a place among n (d where it is left out) -/
def sIx (n d : Nat) : Option Int → Nat
  | none => d
  | some v => if v < 0 then (v + (n : Int)).toNat else min v.toNat n
theorem sIx_none (n d : Nat) : sIx n d none = d := rfl
theorem sIx_nat (n d k : Nat) : sIx n d (some (k : Int)) = min k n := by
  show (if (k : Int) < 0 then ((k : Int) + (n : Int)).toNat else min (k : Int).toNat n) = min k n
  rw [if_neg (by omega), Int.toNat_natCast]
theorem sIx_le (n d : Nat) (hd : d ≤ n) (o : Option Int) : sIx n d o ≤ n := by
  cases o with
  | none => exact hd
  | some v =>
    show (if v < 0 then (v + (n : Int)).toNat else min v.toNat n) ≤ n
    by_cases hv : v < 0
    · rw [if_pos hv]; omega
    · rw [if_neg hv]; exact Nat.min_le_right _ _
theorem clip_eq (v : Int) (n d : Nat) : (if v < 0 then max (v + (n : Int)) 0 else min v (n : Int)) = ((sIx n d (some v) : Nat) : Int) := by
  show (if v < 0 then max (v + (n : Int)) 0 else min v (n : Int)) = (((if v < 0 then (v + (n : Int)).toNat else min v.toNat n) : Nat) : Int)
  by_cases hv : v < 0
  · simp only [if_pos hv]; omega
  · simp only [if_neg hv]; omega
theorem adjust_gen (lo hi : Option Int) (n : Nat) : Builtin.Slice.sliceAdjust lo hi 1 (n : Int) = (((sIx n 0 lo : Nat) : Int), ((sIx n n hi : Nat) : Int)) := by
  have h1 : ¬ ((1 : Int) < 0) := by omega
  unfold Builtin.Slice.sliceAdjust
  simp only [h1, if_false]
  refine Prod.ext ?_ ?_
  · cases lo with
    | none => rfl
    | some v => exact clip_eq v n 0
  · cases hi with
    | none => rfl
    | some v => exact clip_eq v n n
theorem places_gen (i j : Nat) : Builtin.Slice.slicePlaces (i : Int) (j : Int) 1 = j - i := by
  unfold Builtin.Slice.slicePlaces
  have h1 : (1 : Int) > 0 := by omega
  simp only [h1, if_true, Int.ediv_one]
  split <;> omega
theorem slicePart_ {v : Value} {o : Option Int} {Q : Option Int → Shared → Prop} (p : IsPart v o) (h : Q o s) : wpAny (model prog w) A (Builtin.Slice.slicePartIndex v) Q E s := by
  cases p with
  | none => exact slicePart_none h
  | int i t => exact slicePart_int h
theorem sliceApplied_gen {sl : Addr} {vl vu : Value} {lo hi : Option Int} {n : Nat} {Q : Int × Int × Nat → Shared → Prop} (hs : s.heap.IsSliceOf sl vl vu .none) (pl : IsPart vl lo) (pu : IsPart vu hi)
    (h : Q (((sIx n 0 lo : Nat) : Int), 1, sIx n n hi - sIx n 0 lo) s) : wpAny (model prog w) A (Builtin.Slice.sliceApplied (.ref sl) (pure (n : Int))) Q E s := by
  obtain ⟨os, hos, hcs, hds⟩ := id hs
  unfold Builtin.Slice.sliceApplied Builtin.Slice.sliceFields
  refine wpAny_bind (wpAny_bind (wpAny_field hos hds (x := vl) rfl (wpAny_bind (wpAny_field hos hds (x := vu) rfl (wpAny_bind (wpAny_field hos hds (x := .none) rfl (wpAny_pure ?_)))))))
  refine wpAny_bind (slicePart_none ?_)
  show wpAny _ _ (if ((1 : Int) == 0) = true then _ else _) _ _ s
  rw [if_neg (by decide)]
  refine wpAny_bind (slicePart_ pl (wpAny_bind (slicePart_ pu (wpAny_bind (wpAny_pure ?_)))))
  show wpAny _ _ (match Builtin.Slice.sliceAdjust lo hi 1 (n : Int) with | (lo, hi) => pure (lo, (1 : Int), Builtin.Slice.slicePlaces lo hi 1)) _ _ s
  rw [adjust_gen lo hi n]
  show wpAny _ _ (pure (((sIx n 0 lo : Nat) : Int), (1 : Int), Builtin.Slice.slicePlaces ((sIx n 0 lo : Nat) : Int) ((sIx n n hi : Nat) : Int) 1)) _ _ s
  rw [places_gen]
  exact wpAny_pure h
theorem pick_gen (xs : Array Value) (i k : Nat) : ((List.range k).filterMap fun (m : Nat) => xs[((i : Int) + (m : Int) * 1).toNat]?).toArray = ((xs.toList.drop i).take k).toArray := by
  have e : (fun (m : Nat) => xs[((i : Int) + (m : Int) * 1).toNat]?) = fun m => xs[i + m]? := by
    funext m
    have : ((i : Int) + (m : Int) * 1).toNat = i + m := by omega
    rw [this]
  rw [e]
  have := pick_run xs i k
  rw [List.filterMap_map] at this
  have e2 : ((fun x => xs[x]?) ∘ fun x => i + x) = fun m => xs[i + m]? := rfl
  rw [e2] at this
  rw [this]

theorem getItem_tuple_cut {t sl : Addr} {items : Array Value} {vl vu : Value} {lo hi : Option Int} {Q : Value → Shared → Prop} (ht : IsTup s.heap t items) (hs : s.heap.IsSliceOf sl vl vu .none) (pl : IsPart vl lo) (pu : IsPart vu hi)
    (hw : ¬ (sIx items.size 0 lo = 0 ∧ sIx items.size items.size hi = items.size))
    (h : Q (.ref s.heap.objs.size) { s with heap := s.heap.push { cls := .type "tuple", data := .seq ((items.toList.drop (sIx items.size 0 lo)).take (sIx items.size items.size hi - sIx items.size 0 lo)).toArray } })
    (hsz : items.size ≤ sizeLine) : wpAny (model prog w) A (getItem (.ref t) (.ref sl)) Q E s := by
  have htake : sizeOk (.seq ((items.toList.drop (sIx items.size 0 lo)).take (sIx items.size items.size hi - sIx items.size 0 lo)).toArray) := by
    show ((items.toList.drop (sIx items.size 0 lo)).take (sIx items.size items.size hi - sIx items.size 0 lo)).toArray.size ≤ sizeLine
    rw [List.size_toArray, List.length_take, List.length_drop, Array.length_toList]
    omega
  have hj : sIx items.size items.size hi ≤ items.size := sIx_le _ _ (Nat.le_refl _) hi
  obtain ⟨os, hos, hcs, hds⟩ := id hs
  have hTs : s.TypeIs (.ref sl) "slice" := ⟨os, hos, hcs⟩
  unfold getItem
  try with_reducible refine wpAny_holding ?_
  first | refine wpAny_bind (wpAny_pure ?_) | skip
  refine wpAny_bind (wpAny_sequenceKey ht.typeIs (by decide) ?_)
  refine wpAny_bind (wpAny_callSpecial?_slot (name := Str.ofString "__getitem__") ht.typeIs PyProof.Rows.slot_tuple_getitem
    (wpAny_call_entry PyProof.Rows.slot_tuple_getitem ht.typeIs entry_tuple_getitem ?_ (args_tuple_getitem _ _)))
  show wpAny _ _ (Builtin.Tuple.tupleItemsOf (.ref t) >>= _) _ _ s
  refine wpAny_bind (tupleItemsOf_ ht ?_)
  refine wpAny_bind (wpAny_typeOf hTs ?_)
  rw [if_pos (by decide)]
  refine wpAny_bind (sliceApplied_gen hs pl pu ?_)
  have hno : ¬ ((((sIx items.size 0 lo : Nat) : Int) == 0 && (1 : Int) == 1 && (sIx items.size items.size hi - sIx items.size 0 lo) == items.size) = true) := by
    intro q
    rw [Bool.and_eq_true, Bool.and_eq_true] at q
    have q1 : ((sIx items.size 0 lo : Nat) : Int) = 0 := eq_of_beq q.1.1
    have q2 : sIx items.size items.size hi - sIx items.size 0 lo = items.size := eq_of_beq q.2
    exact hw ⟨by omega, by omega⟩
  show wpAny _ _ (if (((sIx items.size 0 lo : Nat) : Int) == 0 && (1 : Int) == 1 && (sIx items.size items.size hi - sIx items.size 0 lo) == items.size) = true then _ else _) _ _ s
  rw [if_neg hno, pick_gen]
  first
    | exact wpAny_bind (m := Builtin.Tuple.tupleExact _) (wpAny_newObj_type (wpAny_pure ⟨_, rfl, wpAny_pure h⟩) htake)
    | exact wpAny_bind (m := Builtin.Tuple.tupleExact _) (wpAny_newObj_type (wpAny_bind (wpAny_pure (wpAny_pure ⟨_, rfl, wpAny_pure h⟩))) htake)
    | exact wpAny_bind (wpAny_bind (m := Builtin.Tuple.tupleExact _) (wpAny_newObj_type (wpAny_pure (wpAny_pure ⟨_, rfl, wpAny_pure h⟩)) htake))
    | exact wpAny_bind (wpAny_bind (m := Builtin.Tuple.tupleExact _) (wpAny_newObj_type (wpAny_pure ⟨_, rfl, wpAny_pure h⟩) htake))
end
end HT

namespace L2
open PySem PySem.Spec PyProof.Rows

/-! ### the parts of a slice -/
abbrev TO := St → Hp → (Option Int → Hp → Prop) → Prop
/-- a slice's part (left out, or an int) -/
def PO (X : Cx) (e : Option Expr) (t : TO) : Prop :=
  ∀ (pins : List (Addr × Obj)) (s : Shared) (σ : St) (H : Hp) (Q : Option Int → Hp → Prop), Inv X pins σ H s → t σ H Q →
    wpAny (model X.prog X.w) X.A (evalPart e X.env) (fun u s' => ∃ o H', Inv X pins σ H' s' ∧ IsPart u o ∧ Q o H') X.xe s
def tNoPart : TO := fun _ H Q => Q none H
def tPart (t : TE) : TO := fun σ H Q => t σ H fun x H1 => ∃ i, x = .int i ∧ Q (some i) H1

theorem intsAre_of {ns : List Int} : ∀ {us : List Value}, Vals (ns.map V.int) us → IntsAre us ns := by
  induction ns with
  | nil => intro us r; rw [List.map_nil] at r; cases r; exact .nil
  | cons n ns ih =>
    intro us r
    rw [List.map_cons] at r
    cases r with
    | cons r1 r2 =>
      obtain ⟨t, e⟩ := r1
      subst e
      exact .cons n t (ih r2)

section
variable {X : Cx} {e : Expr} {te : TE} {lo hi : Option Expr} {tl th : TO} {pos p2 : Pos}

theorem po_none : PO X none tNoPart := by
  intro pins s σ H Q I h
  rw [evalPart_none]
  exact wpAny_pure ⟨none, H, I, .none, h⟩
theorem po_some (h : PE X e te) : PO X (some e) (tPart te) := by
  intro pins s σ H Q I hw
  rw [evalPart_some]
  refine thn (h pins s σ H _ I hw) fun u s1 ⟨x, H1, I1, r1, q1⟩ => ?_
  obtain ⟨i, rfl, q⟩ := q1
  obtain ⟨t, rfl⟩ := r1
  exact ⟨some i, H1, I1, .int i t, q⟩

/-- what a slice of a value is, by values: the slice object stands at sl -/
def SlR (X : Cx) (r : V → Option Int → Option Int → Hp → VK → Prop) : Prop :=
  ∀ (pins : List (Addr × Obj)) (s : Shared) (σ : St) (H : Hp) (x : V) (v vl vu : Value) (lo hi : Option Int) (sl : Addr) (Q : VK), Inv X pins σ H s → RelV x v → s.heap.IsSliceOf sl vl vu .none → IsPart vl lo → IsPart vu hi → r x lo hi H Q →
    ∃ T id, typeLookup (.type T) "__getitem__" = pure (some (.builtin id)) ∧ s.TypeIs v T ∧ wpAny (model X.prog X.w) X.A (getItem v (.ref sl)) (EP X pins σ Q) X.xe s
theorem SlR.or {r r' : V → Option Int → Option Int → Hp → VK → Prop} (h : SlR X r) (h' : SlR X r') : SlR X (fun x lo hi H Q => r x lo hi H Q ∨ r' x lo hi H Q) := by
  intro pins s σ H x v vl vu lo hi sl Q I rx hs pl pu q
  rcases q with q | q
  · exact h pins s σ H x v vl vu lo hi sl Q I rx hs pl pu q
  · exact h' pins s σ H x v vl vu lo hi sl Q I rx hs pl pu q
def tSl (r : V → Option Int → Option Int → Hp → VK → Prop) (te : TE) (tl th : TO) : TE := fun σ H Q => te σ H fun x H1 => tl σ H1 fun l H2 => th σ H2 fun u H3 => r x l u H3 Q
/-- a[lo:hi], any a -/
theorem pe_slice {r : V → Option Int → Option Int → Hp → VK → Prop} (hr : SlR X r) (he : PE X e te) (hl : PO X lo tl) (hu : PO X hi th) : PE X (.Subscript e (.Slice lo hi none p2) pos) (tSl r te tl th) := by
  intro pins s σ H Q I h
  refine Subscript_ (thn (he pins s σ H _ I h) fun v s1 ⟨x, H1, I1, r1, q1⟩ => ?_)
  refine wpAny_Slice (thn (hl pins s1 σ H1 _ I1 q1) fun vl s2 ⟨l, H2, I2, pl, q2⟩ => thn (hu pins s2 σ H2 _ I2 q2) fun vu s3 ⟨u, H3, I3, pu, q3⟩ => ?_)
  rw [evalPart_none]
  refine wpAny_pure ?_
  have I4 : Inv X pins σ H3 { s3 with heap := s3.heap.push { cls := .type "slice", data := .fields #[vl, vu, .none] } } := I3.kept (t' := s3.toks) fun b ob q => Heap.get?_push_of_some _ q
  obtain ⟨T, id, hT, ht, hg⟩ := hr pins { s3 with heap := s3.heap.push { cls := .type "slice", data := .fields #[vl, vu, .none] } } σ H3 x v vl vu l u s3.heap.objs.size Q I4 r1 (Heap.IsSliceOf.new ..) pl pu q3
  show wpAny (model X.prog X.w) X.A (subscriptTail e (.Slice lo hi none p2) v (.ref s3.heap.objs.size)) (EP X pins σ Q) X.xe { s3 with heap := s3.heap.push { cls := .type "slice", data := .fields #[vl, vu, .none] } }
  exact tail_any (ops := [.ref s3.heap.objs.size, v]) ht hT hg (by with_unfolding_all rfl)

/-- the items of xs[lo:hi] -/
def cutV (xs : List V) (lo hi : Option Int) : List V := (xs.drop (HT.sIx xs.length 0 lo)).take (HT.sIx xs.length xs.length hi - HT.sIx xs.length 0 lo)
theorem cutV_length (xs : List V) (lo hi : Option Int) : (cutV xs lo hi).length ≤ xs.length := by
  unfold cutV
  rw [List.length_take, List.length_drop]
  omega
/-- t[lo:hi], not the whole of it (the whole would be t itself) -/
def rSlT (K : PySem.W.Frag) : V → Option Int → Option Int → Hp → VK → Prop := fun x lo hi H Q => ∃ a xs, x = .ref a ∧ SqT K H a xs ∧
  ¬ (HT.sIx xs.length 0 lo = 0 ∧ HT.sIx xs.length xs.length hi = xs.length) ∧ ∀ p, H p = none → Q (.ref p) (upd H p (.tup (cutV xs lo hi)))
theorem sl_tup : SlR X (rSlT X.K) := by
  intro pins s σ H x v vl vu lo hi sl Q I rx hs pl pu h
  obtain ⟨a, xs, rfl, hx, hw, q⟩ := h
  cases rx
  obtain ⟨its, r, ht, hz⟩ := I.tuple hx
  have hlen : its.toArray.size = xs.length := by rw [List.size_toArray]; exact r.length.symm
  refine ⟨"tuple", _, PyProof.Rows.slot_tuple_getitem.lookup, ht.typeIs, ?_⟩
  refine HT.getItem_tuple_cut ht hs pl pu (by rw [hlen]; exact hw) ?_ (by rw [hlen]; exact hz)
  rw [hlen]
  refine ⟨.ref s.heap.objs.size, _, I.laid (t' := s.toks) (o := .tup (cutV xs lo hi)) (fun b ob q => Heap.get?_push_of_some _ q) (Nat.le_refl _) ?_, rfl, q _ (I.hok.fresh (Nat.le_refl _))⟩
  exact ⟨Nat.le_trans (cutV_length xs lo hi) hz, _, (r.drop (HT.sIx xs.length 0 lo)).take (HT.sIx xs.length xs.length hi - HT.sIx xs.length 0 lo), IsTup.new _ _⟩

/-! ### t < u, t + u -/
def rLtT (K : PySem.W.Frag) : R2 := fun x y H Q => ∃ a b ns ms, x = .ref a ∧ y = .ref b ∧ SqT K H a (ns.map V.int) ∧ SqT K H b (ms.map V.int) ∧ Q (.bl (HT.lexLt ns ms)) H
theorem op_ltT (hu : X.A.units < cLine) : OpR X (compareOp .Lt) (rLtT X.K) := by
  intro pins s σ H x y v u Q I rx ry h
  obtain ⟨a, b, ns, ms, rfl, rfl, ha, hb, q⟩ := h
  cases rx
  cases ry
  obtain ⟨its, r1, p1, _⟩ := I.tuple ha
  obtain ⟨its2, r2, p2, _⟩ := I.tuple hb
  have i1 : IntsAre its.toArray.toList ns := intsAre_of r1
  have i2 : IntsAre its2.toArray.toList ms := intsAre_of r2
  exact HT.lt_tupInts p1 p2 i1 i2 hu ⟨.bl (HT.lexLt ns ms), H, I, rfl, q⟩
/-- t + u, t not empty: u empty gives t itself -/
def rCatT (K : PySem.W.Frag) : R2 := fun x y H Q => ∃ a b xs ys, x = .ref a ∧ y = .ref b ∧ SqT K H a xs ∧ SqT K H b ys ∧ xs ≠ [] ∧ xs.length + ys.length ≤ sizeLine ∧
  (ys = [] → Q (.ref a) H) ∧ (ys ≠ [] → ∀ p, H p = none → Q (.ref p) (upd H p (.tup (xs ++ ys))))
theorem Vals.nil_iff {xs : List V} {us : List Value} (r : Vals xs us) : us = [] ↔ xs = [] := by
  cases r with
  | nil => simp
  | cons _ _ => simp
theorem op_catT : OpR X (binaryOp .Add) (rCatT X.K) := by
  intro pins s σ H x y v u Q I rx ry h
  obtain ⟨a, b, xs, ys, rfl, rfl, ha, hb, hx, hz, q1, q2⟩ := h
  cases rx
  cases ry
  obtain ⟨its, r1, p1, _⟩ := I.tuple ha
  obtain ⟨its2, r2, p2, _⟩ := I.tuple hb
  refine HT.cat_tup p1 p2 (fun z => hx (r1.nil_iff.mp z)) (fun z => ⟨.ref a, H, I, rfl, q1 (r2.nil_iff.mp z)⟩) (fun z => ?_) (by rw [← r1.length, ← r2.length]; exact hz)
  refine ⟨.ref s.heap.objs.size, _, I.laid (t' := s.toks) (o := .tup (xs ++ ys)) (fun b ob q => Heap.get?_push_of_some _ q) (Nat.le_refl _) ?_, rfl, q2 (fun w => z (r2.nil_iff.mpr w)) _ (I.hok.fresh (Nat.le_refl _))⟩
  exact ⟨by rw [List.length_append]; exact hz, _, r1.append r2, IsTup.new _ _⟩
/-- tuple(t) -/
theorem call_tupleT : CallR X (.type "tuple") (fun xs H Q => ∃ a ys, xs = [.ref a] ∧ SqT X.K H a ys ∧ Q (.ref a) H) := by
  intro pins s σ H xs us Q I r h
  obtain ⟨a, ys, rfl, ha, q⟩ := h
  obtain ⟨u, rfl, ru⟩ := vals1 r
  cases ru
  obtain ⟨its, _, p1, _⟩ := I.tuple ha
  exact call_tuple_same (items := its.toArray) p1 ⟨.ref a, H, I, rfl, q⟩
end
end L2

namespace L2
open PySem PySem.Spec PyProof.Rows

/-! ### places -/
/-- the place that an index of any sign means -/
def ixN (n : Nat) (i : Int) : Option Nat := if 0 ≤ i then (if i < n then some i.toNat else none) else if -(n : Int) ≤ i then some (i + n).toNat else none
def atI {α : Type} (xs : List α) (i : Int) : Option α := (ixN xs.length i).bind fun j => xs[j]?
theorem ixN_seq {n : Nat} {i : Int} {j : Nat} (h : ixN n i = some j) : seqIndex? i n = some j ∧ j < n ∧ -(n : Int) ≤ i ∧ i < n := by
  unfold ixN at h
  by_cases h0 : 0 ≤ i
  · rw [if_pos h0] at h
    by_cases h1 : i < n
    · rw [if_pos h1] at h
      have e : i.toNat = j := Option.some.inj h
      exact ⟨by rw [seqIndex_of h0 h1, e], by omega, by omega, h1⟩
    · rw [if_neg h1] at h; cases h
  · rw [if_neg h0] at h
    by_cases h1 : -(n : Int) ≤ i
    · rw [if_pos h1] at h
      have e : (i + n).toNat = j := Option.some.inj h
      exact ⟨by rw [seqIndex_neg (by omega) h1, e], by omega, h1, by omega⟩
    · rw [if_neg h1] at h; cases h
theorem atI_get {α : Type} {xs : List α} {i : Int} {v : α} (h : atI xs i = some v) : ∃ j, seqIndex? i xs.length = some j ∧ xs[j]? = some v ∧ j < xs.length ∧ -(xs.length : Int) ≤ i ∧ i < xs.length := by
  unfold atI at h
  cases e : ixN xs.length i with
  | none => rw [e] at h; cases h
  | some j =>
    rw [e] at h
    obtain ⟨h1, h2, h3, h4⟩ := ixN_seq e
    exact ⟨j, h1, h, h2, h3, h4⟩
theorem atI_nat {α : Type} {xs : List α} {j : Nat} {v : α} (h : xs[j]? = some v) : atI xs (j : Int) = some v := by
  have hj : j < xs.length := (List.getElem?_eq_some_iff.mp h).1
  have e : ixN xs.length (j : Int) = some j := by
    unfold ixN
    rw [if_pos (by omega), if_pos (by omega)]; simp
  unfold atI; rw [e]; exact h
theorem atI_last {α : Type} (xs : List α) (v : α) : atI (xs ++ [v]) (-1) = some v := by
  have hl : (xs ++ [v]).length = xs.length + 1 := by simp
  have e : ixN (xs ++ [v]).length (-1) = some xs.length := by
    unfold ixN
    rw [hl, if_neg (by decide), if_pos (by omega)]
    congr 1
    omega
  unfold atI
  rw [e]
  show (xs ++ [v])[xs.length]? = some v
  simp

/-! ### what may be subscripted -/
/-- what stands as an index of a plain subscript -/
def PlainIx (b : Expr) : Prop := ∀ o i, subscripted b false o i = operate [o, i] (getItem o i)
/-- a subscript by values -/
def IxR (X : Cx) (r : R2) : Prop :=
  ∀ (value slice : Expr) (pins : List (Addr × Obj)) (s : Shared) (σ : St) (H : Hp) (x y : V) (v u : Value) (Q : VK), Inv X pins σ H s → RelV x v → RelV y u → r x y H Q →
    subscripted slice false v u = operate [v, u] (getItem v u) → wpAny (model X.prog X.w) X.A (subscriptTail value slice v u) (EP X pins σ Q) X.xe s
/-- a call of a builtin's method by values: the receiver, the arguments -/
def MtR (X : Cx) (id : String) (r : V → List V → Hp → VK → Prop) : Prop :=
  ∀ (pins : List (Addr × Obj)) (s : Shared) (σ : St) (H : Hp) (x : V) (xs : List V) (v : Value) (us : List Value) (Q : VK), Inv X pins σ H s → RelV x v → Vals xs us → r x xs H Q →
    wpAny (model X.prog X.w) X.A (call (.builtin id) (v :: us)) (EP X pins σ Q) X.xe s
section
variable {X : Cx} {a b : Expr} {ta tb : TE} {pos : Pos}
theorem IxR.or {r r' : R2} (h : IxR X r) (h' : IxR X r') : IxR X (fun x y H Q => r x y H Q ∨ r' x y H Q) := by
  intro value slice pins s σ H x y v u Q I rx ry q hs
  rcases q with q | q
  · exact h value slice pins s σ H x y v u Q I rx ry q hs
  · exact h' value slice pins s σ H x y v u Q I rx ry q hs
theorem MtR.or {id : String} {r r' : V → List V → Hp → VK → Prop} (h : MtR X id r) (h' : MtR X id r') : MtR X id (fun x xs H Q => r x xs H Q ∨ r' x xs H Q) := by
  intro pins s σ H x xs v us Q I rx rs q
  rcases q with q | q
  · exact h pins s σ H x xs v us Q I rx rs q
  · exact h' pins s σ H x xs v us Q I rx rs q
/-- a[b] -/
theorem pe_ix {r : R2} (hr : IxR X r) (ha : PE X a ta) (hb : PE X b tb) (hs : PlainIx b) : PE X (.Subscript a b pos) (tOp r ta tb) := by
  intro pins s σ H Q I h
  exact Subscript_ (binT ha hb I h fun v u s2 x y H2 I2 rx ry q => hr a b pins s2 σ H2 x y v u Q I2 rx ry q (hs _ _))

def rIxL (K : PySem.W.Frag) : R2 := fun x y H Q => ∃ p xs i v, x = .ref p ∧ y = .int i ∧ SqL K H p xs ∧ atI xs i = some v ∧ Q v H
def rIxT (K : PySem.W.Frag) : R2 := fun x y H Q => ∃ p xs i v, x = .ref p ∧ y = .int i ∧ SqT K H p xs ∧ atI xs i = some v ∧ Q v H
def rIxS : R2 := fun x y H Q => ∃ z i c, x = .str z ∧ y = .int i ∧ z.length ≤ sizeLine ∧ atI z.cps.toList i = some c ∧ Q (.str ⟨#[c]⟩) H
theorem ix_list : IxR X (rIxL X.K) := by
  intro value slice pins s σ H x y v u Q I rx ry h hs
  obtain ⟨p, xs, i, z, rfl, rfl, hq, he, q⟩ := h
  cases rx
  obtain ⟨t, rfl⟩ := ry
  obtain ⟨its, r, pl, hz⟩ := I.list hq
  obtain ⟨j, h1, h2, h3, h4, h5⟩ := atI_get he
  obtain ⟨w, ew, rw'⟩ := r.get h2
  have hl := r.length
  have hn := line63
  have fin : EP X pins σ Q w s := ⟨z, H, I, rw', q⟩
  by_cases h0 : 0 ≤ i
  · have hj : i.toNat = j := by
      rw [seqIndex_of h0 h5] at h1
      exact Option.some.inj h1
    exact item_listR pl.isList h0 (by omega) (by rw [hj]; simpa using ew) fin hs
  · have hj : (i + (its.toArray.size : Int)).toNat = j := by
      rw [seqIndex_neg (by omega) h4] at h1
      rw [List.size_toArray, ← hl]
      exact Option.some.inj h1
    exact subscriptTail_builtinR (x := w) pl.isList.typeIs slot_list_getitem.lookup
      (wpAny_getItem_list_neg (Q := fun r s' => r = w ∧ EP X pins σ Q r s') pl.isList (by omega) (by rw [List.size_toArray] <;> omega) (by omega) (by rw [hj]; simpa using ew) ⟨rfl, fin⟩) hs
theorem ix_tup : IxR X (rIxT X.K) := by
  intro value slice pins s σ H x y v u Q I rx ry h hs
  obtain ⟨p, xs, i, z, rfl, rfl, hq, he, q⟩ := h
  cases rx
  obtain ⟨t, rfl⟩ := ry
  obtain ⟨its, r, pl, hz⟩ := I.tuple hq
  obtain ⟨j, h1, h2, h3, h4, h5⟩ := atI_get he
  obtain ⟨w, ew, rw'⟩ := r.get h2
  have hl := r.length
  have hn := line63
  have fin : EP X pins σ Q w s := ⟨z, H, I, rw', q⟩
  exact subscriptTail_builtinR (x := w) pl.typeIs slot_tuple_getitem.lookup
    (getItem_tuple (j := j) (Q := fun r s' => r = w ∧ EP X pins σ Q r s') pl (by omega) (by omega) (by rw [List.size_toArray, ← hl]; exact h1) (by simpa using ew) ⟨rfl, fin⟩) hs
theorem ix_str : IxR X rIxS := by
  intro value slice pins s σ H x y v u Q I rx ry h hs
  obtain ⟨z, i, c, rfl, rfl, hz, he, q⟩ := h
  obtain ⟨t, rfl⟩ := rx
  obtain ⟨t', rfl⟩ := ry
  obtain ⟨j, h1, h2, h3, h4, h5⟩ := atI_get he
  have hl : z.cps.toList.length = z.length := by simp [Str.length]
  rw [hl] at h1 h4 h5
  have hn := line63
  exact tail_any (typeIs_str s z t) slot_str_getitem.lookup (getItem_str (c := c) (by
    have e1 : decide (i < -(2 ^ 63 : Int)) = false := decide_eq_false (by omega)
    have e2 : decide (i ≥ 2 ^ 63) = false := decide_eq_false (by omega)
    rw [e1, e2, Bool.or_false]) (by rw [h1]; simpa using h2) ⟨.str ⟨#[c]⟩, H, I.tok _, ⟨_, rfl⟩, q⟩) hs
/-- list, tuple or str -/
def rIx (K : PySem.W.Frag) : R2 := fun x y H Q => rIxL K x y H Q ∨ rIxT K x y H Q ∨ rIxS x y H Q
theorem ix_seq : IxR X (rIx X.K) := ix_list.or (ix_tup.or ix_str)

/-! ### xs[i] = v, any sign -/
/-- the list's object behind a store -/
theorem mapSeq_set (its : List Value) (n j : Nat) (u : Value) : Obj.mapSeq (·.setIfInBounds j u) { cls := .type "list", data := .seq its.toArray n } = { cls := .type "list", data := .seq (its.set j u).toArray n } := by
  simp [Obj.mapSeq]
theorem Inv.lst {pins : List (Addr × Obj)} {σ : St} {H : Hp} {s : Shared} {p : Addr} {xs : List V} (I : Inv X pins σ H s) (h : H p = some (.lst xs)) :
    ∃ (its : List Value) (n : Nat), Vals xs its ∧ s.heap.get? p = some { cls := .type "list", data := .seq its.toArray n } ∧ xs.length ≤ sizeLine := by
  obtain ⟨z, its, n, r, e⟩ := I.hok p _ h
  exact ⟨its, n, r, e, z⟩
/-- the list at p is written by an update of its object -/
theorem Inv.lstUpd {pins : List (Addr × Obj)} {σ : St} {H : Hp} {s : Shared} {p : Addr} {xs ys : List V} {its its' : List Value} {n n' : Nat} {f : Obj → Obj} (I : Inv X pins σ H s) (h : H p = some (.lst xs))
    (ho : s.heap.get? p = some { cls := .type "list", data := .seq its.toArray n }) (hf : f { cls := .type "list", data := .seq its.toArray n } = { cls := .type "list", data := .seq its'.toArray n' }) (r : Vals ys its') (hz : ys.length ≤ sizeLine) (t : Nat) :
    Inv X pins σ (upd H p (.lst ys)) { s with heap := s.heap.update p f, toks := t } := by
  have e : (s.heap.update p f).get? p = some { cls := .type "list", data := .seq its'.toArray n' } := by
    rw [Heap.get?_update_self f ho (by rw [hf] <;> rfl), hf]
  refine I.write (x := p) (e := p) (by rw [h]; trivial) (.inl rfl) (fun b u hb q => (Heap.get?_update_other _ _ (Ne.symm hb)).trans q) ⟨_, e⟩ ?_
  exact ⟨hz, its', n', r, e⟩
def rSetL : V → V → V → Hp → (Hp → Prop) → Prop := fun o i v H Q => ∃ p xs k j, o = .ref p ∧ i = .int k ∧ H p = some (.lst xs) ∧ ixN xs.length k = some j ∧ Q (upd H p (.lst (xs.set j v)))
theorem set_list : PSet X rSetL := by
  intro pins s σ H o i v ov iv u Q I ro ri rv h
  obtain ⟨p, xs, k, j, rfl, rfl, hp, hj, q⟩ := h
  cases ro
  obtain ⟨t, rfl⟩ := ri
  obtain ⟨its, n, r, ho, hz⟩ := I.lst hp
  obtain ⟨h1, h2, h3, h4⟩ := ixN_seq hj
  have hl := r.length
  have hn := line63
  have I' : Inv X pins σ (upd H p (.lst (xs.set j v))) { s with heap := s.heap.update p (Obj.mapSeq (·.setIfInBounds j u)) } :=
    I.lstUpd hp ho (mapSeq_set its n j u) (r.set rv j) (by rw [List.length_set]; exact hz) s.toks
  by_cases h0 : 0 ≤ k
  · have hk : k.toNat = j := by
      rw [seqIndex_of h0 h4] at h1
      exact Option.some.inj h1
    exact PySem.W.ki_setAt ho h0 (by omega) (by rw [List.size_toArray, ← hl]; exact h4) (by rw [hk]; exact ⟨_, I', q⟩)
  · have hk : (k + (its.toArray.size : Int)).toNat = j := by
      rw [seqIndex_neg (by omega) h3] at h1
      rw [List.size_toArray, ← hl]
      exact Option.some.inj h1
    exact PySem.W.ki_setBack ho (by omega) (by rw [List.size_toArray, ← hl]; exact h3) (by omega) (by rw [hk]; exact ⟨_, I', q⟩)

/-! ### slices -/
theorem slice_bounds (lo hi : Option Int) (n : Nat) : (sliceBounds lo hi none n).1 = ((HT.sIx n 0 lo : Nat) : Int) ∧ (sliceBounds lo hi none n).2.1 = ((HT.sIx n n hi : Nat) : Int) ∧ (sliceBounds lo hi none n).2.2 = 1 := by
  refine ⟨?_, ?_, rfl⟩
  · cases lo with
    | none => simp [sliceBounds, HT.sIx]
    | some i =>
      simp only [sliceBounds, HT.sIx, Option.getD_none, show (1 : Int) > 0 by decide, if_true]
      by_cases h : i < 0
      · simp only [h, if_true] <;> omega
      · simp only [h, if_false] <;> omega
  · cases hi with
    | none => simp [sliceBounds, HT.sIx]
    | some i =>
      simp only [sliceBounds, HT.sIx, Option.getD_none, show (1 : Int) > 0 by decide, if_true]
      by_cases h : i < 0
      · simp only [h, if_true] <;> omega
      · simp only [h, if_false] <;> omega
theorem slicePick_cut (its : List Value) (lo hi : Option Int) : slicePick its.toArray lo hi none = ((its.drop (HT.sIx its.length 0 lo)).take (HT.sIx its.length its.length hi - HT.sIx its.length 0 lo)).toArray := by
  obtain ⟨h1, h2, h3⟩ := slice_bounds lo hi its.toArray.size
  unfold slicePick
  rw [h1, h2, h3]
  simp only [sliceRange_one, pick_run, List.size_toArray] <;> rfl
/-- xs[lo:hi] of a list: a new list -/
def rSlL (K : PySem.W.Frag) : V → Option Int → Option Int → Hp → VK → Prop := fun x lo hi H Q => ∃ a xs, x = .ref a ∧ SqL K H a xs ∧ ∀ p, H p = none → Q (.ref p) (upd H p (.lst (cutV xs lo hi)))
theorem sl_list : SlR X (rSlL X.K) := by
  intro pins s σ H x v vl vu lo hi sl Q I rx hs pl pu h
  obtain ⟨a, xs, rfl, hx, q⟩ := h
  cases rx
  obtain ⟨its, r, ht, hz⟩ := I.list hx
  have hlen := r.length
  refine ⟨"list", _, slot_list_getitem.lookup, ht.isList.typeIs, ?_⟩
  refine wpAny_getItem_list_slice ht.isList hs pl pu .none (by simp) ?_ (by rw [List.size_toArray] <;> omega)
  rw [slicePick_cut, ← hlen]
  refine ⟨.ref s.heap.objs.size, _, I.laid (t' := s.toks) (o := .lst (cutV xs lo hi)) (fun b ob q => Heap.get?_push_of_some _ q) (Nat.le_refl _) ?_, rfl, q _ (I.hok.fresh (Nat.le_refl _))⟩
  exact ⟨Nat.le_trans (cutV_length xs lo hi) hz, _, 0, (r.drop (HT.sIx xs.length 0 lo)).take (HT.sIx xs.length xs.length hi - HT.sIx xs.length 0 lo), Heap.get?_push_size _ rfl⟩

/-! ### in, not in: flat items -/
def flatV : V → Bool
  | .non => true
  | .bl _ => true
  | .int _ => true
  | .str _ => true
  | _ => false
/-- == of flat values -/
def eqV : V → V → Bool
  | .non, .non => true
  | .bl a, .bl b => a == b
  | .bl a, .int b => (if a then 1 else 0) == b
  | .int a, .bl b => a == (if b then 1 else 0)
  | .int a, .int b => a == b
  | .str a, .str b => a == b
  | _, _ => false
theorem eqAt_V {A : Around} {s : Shared} {y x : V} {u v : Value} (ry : RelV y u) (rx : RelV x v) (fy : flatV y = true) (fx : flatV x = true) : SeqAt.EqAt A s u v (eqV y x) := by
  cases y with
  | non =>
    cases ry
    cases x with
    | non => cases rx; exact SeqAt.EqAt.same _
    | bl b => cases rx; exact SeqAt.EqAt.none_bool b
    | int b => obtain ⟨t, rfl⟩ := rx; exact SeqAt.EqAt.none_int b t
    | str b => obtain ⟨t, rfl⟩ := rx; exact SeqAt.EqAt.none_str b t
    | _ => exact absurd (show false = true from fx) Bool.false_ne_true
  | bl a =>
    cases ry
    cases x with
    | non => cases rx; exact SeqAt.EqAt.bool_none a
    | bl b => cases rx; exact SeqAt.EqAt.bool_bool a b
    | int b => obtain ⟨t, rfl⟩ := rx; exact SeqAt.EqAt.bool_int a b t
    | str b => obtain ⟨t, rfl⟩ := rx; exact SeqAt.EqAt.bool_str a b t
    | _ => exact absurd (show false = true from fx) Bool.false_ne_true
  | int a =>
    obtain ⟨t', rfl⟩ := ry
    cases x with
    | non => cases rx; exact SeqAt.EqAt.int_none a t'
    | bl b => cases rx; exact SeqAt.EqAt.int_bool a t' b
    | int b => obtain ⟨t, rfl⟩ := rx; exact SeqAt.EqAt.int_int a t' b t
    | str b => obtain ⟨t, rfl⟩ := rx; exact SeqAt.EqAt.int_str a t' b t
    | _ => exact absurd (show false = true from fx) Bool.false_ne_true
  | str a =>
    obtain ⟨t', rfl⟩ := ry
    cases x with
    | non => cases rx; exact SeqAt.EqAt.str_none a t'
    | bl b => cases rx; exact SeqAt.EqAt.str_bool a t' b
    | int b => obtain ⟨t, rfl⟩ := rx; exact SeqAt.EqAt.str_int a t' b t
    | str b => obtain ⟨t, rfl⟩ := rx; exact SeqAt.EqAt.str_str a t' b t
    | _ => exact absurd (show false = true from fx) Bool.false_ne_true
  | _ => exact absurd (show false = true from fy) Bool.false_ne_true
/-- the items' answers, read off the values (a value's own answer does not lean on its token) -/
def eqU (x : V) (u : Value) : Bool := match u with
  | .none => eqV .non x
  | .bool b => eqV (.bl b) x
  | .int i _ => eqV (.int i) x
  | .str z _ => eqV (.str z) x
  | _ => false
theorem eqU_of {x y : V} {u : Value} (r : RelV y u) (f : flatV y = true) : eqU x u = eqV y x := by
  cases y with
  | non => cases r; rfl
  | bl b => cases r; rfl
  | int i => obtain ⟨t, rfl⟩ := r; rfl
  | str z => obtain ⟨t, rfl⟩ := r; rfl
  | _ => exact absurd (show false = true from f) Bool.false_ne_true
theorem any_eqU {x : V} : ∀ {xs : List V} {us : List Value}, Vals xs us → xs.all flatV = true → us.any (eqU x) = xs.any fun y => eqV y x
  | _, _, .nil, _ => rfl
  | y :: xs, u :: us, .cons r t, f => by
    rw [List.all_cons, Bool.and_eq_true] at f
    rw [List.any_cons, List.any_cons, eqU_of r f.1, any_eqU t f.2]
theorem mem_eqAt {A : Around} {s : Shared} {x : V} {v : Value} (rx : RelV x v) (fx : flatV x = true) : ∀ {xs : List V} {us : List Value}, Vals xs us → xs.all flatV = true → ∀ u ∈ us, SeqAt.EqAt A s u v (eqU x u)
  | _, _, .nil, _ => fun u hu => by cases hu
  | y :: xs, u :: us, .cons r t, f => fun u' hu => by
    rw [List.all_cons, Bool.and_eq_true] at f
    rcases List.mem_cons.mp hu with rfl | hu
    · rw [eqU_of r f.1]; exact eqAt_V r rx f.1 fx
    · exact mem_eqAt rx fx t f.2 u' hu
def inV (x : V) (xs : List V) : Bool := xs.any fun y => eqV y x
/-- x in a list or tuple of flat items -/
def rIn (K : PySem.W.Frag) (neg : Bool) : R2 := fun x y H Q => ∃ p xs, y = .ref p ∧ (SqL K H p xs ∨ SqT K H p xs) ∧ flatV x = true ∧ xs.all flatV = true ∧ Q (.bl (if neg then !inV x xs else inV x xs)) H
theorem op_in_seq : OpR X (compareOp .In) (rIn X.K false) := by
  intro pins s σ H x y v u Q I rx ry h
  obtain ⟨p, xs, rfl, hq, fx, fs, q⟩ := h
  cases ry
  rcases hq with hq | hq
  · obtain ⟨its, r, pl, hz⟩ := I.list hq
    refine SeqAt.in_listAt (eqU x) pl.isList (fun w hw => mem_eqAt rx fx r fs w (by simpa using hw)) ⟨.bl _, H, I, rfl, ?_⟩
    rw [show its.toArray.any (eqU x) = its.any (eqU x) by simp, any_eqU r fs]
    exact q
  · obtain ⟨its, r, pl, hz⟩ := I.tuple hq
    refine SeqAt.in_tupleAt (eqU x) pl (fun w hw => mem_eqAt rx fx r fs w (by simpa using hw)) ⟨.bl _, H, I, rfl, ?_⟩
    rw [show its.toArray.any (eqU x) = its.any (eqU x) by simp, any_eqU r fs]
    exact q
theorem op_notIn_seq : OpR X (compareOp .NotIn) (rIn X.K true) := by
  intro pins s σ H x y v u Q I rx ry h
  obtain ⟨p, xs, rfl, hq, fx, fs, q⟩ := h
  cases ry
  rcases hq with hq | hq
  · obtain ⟨its, r, pl, hz⟩ := I.list hq
    refine SeqAt.notIn_listAt (eqU x) pl.isList (fun w hw => mem_eqAt rx fx r fs w (by simpa using hw)) ⟨.bl _, H, I, rfl, ?_⟩
    rw [show its.toArray.any (eqU x) = its.any (eqU x) by simp, any_eqU r fs]
    exact q
  · obtain ⟨its, r, pl, hz⟩ := I.tuple hq
    refine SeqAt.notIn_tupleAt (eqU x) pl (fun w hw => mem_eqAt rx fx r fs w (by simpa using hw)) ⟨.bl _, H, I, rfl, ?_⟩
    rw [show its.toArray.any (eqU x) = its.any (eqU x) by simp, any_eqU r fs]
    exact q
theorem op_notIn_str : OpR X (compareOp .NotIn) (fun x y H Q => ∃ i j, x = .str i ∧ y = .str j ∧ Q (.bl (!(!(Builtin.Str.occurrences j i 0 j.length 1).isEmpty))) H) := by
  intro pins s σ H x y v u Q I rx ry h
  obtain ⟨i, j, rfl, rfl, q⟩ := h
  obtain ⟨t, rfl⟩ := rx
  obtain ⟨t', rfl⟩ := ry
  exact notIn_str ⟨.bl _, H, I, rfl, q⟩

/-! ### len, list(x), tuple(x) of any list or tuple that is read -/
theorem call_len_seq : CallR X (.builtin "len") (fun xs H Q => ∃ p ys, xs = [.ref p] ∧ (SqL X.K H p ys ∨ SqT X.K H p ys) ∧ Q (.int ys.length) H) := by
  intro pins s σ H xs us Q I r h
  obtain ⟨p, ys, rfl, hq, q⟩ := h
  obtain ⟨u, rfl, rx⟩ := vals1 r
  cases rx
  have hn := line63
  rcases hq with hq | hq
  · obtain ⟨its, r', pl, hz⟩ := I.list hq
    have hlen := r'.length
    exact Calls.call_len_list pl.isList (by simp only [List.size_toArray] <;> omega) ⟨.int ys.length, H, I.tok _, ⟨s.toks + 1, by rw [List.size_toArray, hlen]⟩, q⟩
  · obtain ⟨its, r', pl, hz⟩ := I.tuple hq
    have hlen := r'.length
    exact len_tuple pl (by simp only [List.size_toArray] <;> omega) ⟨.int ys.length, H, I.tok _, ⟨s.toks + 1, by rw [List.size_toArray, hlen]⟩, q⟩
theorem call_len_str : CallR X (.builtin "len") (fun xs H Q => ∃ z, xs = [.str z] ∧ z.length ≤ sizeLine ∧ Q (.int z.length) H) := by
  intro pins s σ H xs us Q I r h
  obtain ⟨z, rfl, hz, q⟩ := h
  obtain ⟨u, rfl, t, rfl⟩ := vals1 r
  have hn := line63
  exact len_str (by omega) ⟨.int z.length, H, I.tok _, ⟨_, rfl⟩, q⟩
theorem CallR.or {f : Value} {r r' : List V → Hp → VK → Prop} (h : CallR X f r) (h' : CallR X f r') : CallR X f (fun xs H Q => r xs H Q ∨ r' xs H Q) := by
  intro pins s σ H xs us Q I rs q
  rcases q with q | q
  · exact h pins s σ H xs us Q I rs q
  · exact h' pins s σ H xs us Q I rs q
theorem call_list_of : CallR X (.type "list") (fun xs H Q => ∃ p ys, xs = [.ref p] ∧ (SqL X.K H p ys ∨ SqT X.K H p ys) ∧ ∀ l, H l = none → Q (.ref l) (upd H l (.lst ys))) := by
  intro pins s σ H xs us Q I r h
  obtain ⟨p, ys, rfl, hq, q⟩ := h
  obtain ⟨u, rfl, rx⟩ := vals1 r
  cases rx
  have fin : ∀ (its : List Value), Vals ys its → ys.length ≤ sizeLine → ∀ (h' : Heap) (c' : Nat), (∀ b o', s.heap.get? b = some o' → h'.get? b = some o') →
      h'.get? s.heap.objs.size = some { cls := .type "list", dict := none, data := .seq its.toArray c', slots := #[] } → EP X pins σ Q (.ref s.heap.objs.size) { s with heap := h' } := fun its r' hz h' c' kp e =>
    ⟨.ref s.heap.objs.size, _, I.laid (t' := s.toks) kp (Nat.le_refl _) (show ObjOk X.prog X.w _ h' _ (.lst ys) from ⟨hz, its, c', r', e⟩), rfl, q _ (I.hok.fresh (Nat.le_refl _))⟩
  rcases hq with hq | hq
  · obtain ⟨its, r', pl, hz⟩ := I.list hq
    have hlen := r'.length
    obtain ⟨o, ho, hc, n, hd⟩ := pl.isList
    exact call_list_seq p (.inl rfl) ho hc hd (fun h' c' kp e => fin its r' hz h' c' kp e) (by simp only [List.size_toArray] <;> omega)
  · obtain ⟨its, r', pl, hz⟩ := I.tuple hq
    have hlen := r'.length
    obtain ⟨o, ho, hc, n, hd⟩ := pl
    exact call_list_seq p (.inr rfl) ho hc hd (fun h' c' kp e => fin its r' hz h' c' kp e) (by simp only [List.size_toArray] <;> omega)
theorem call_tuple_of : CallR X (.type "tuple") (fun xs H Q => ∃ p ys, xs = [.ref p] ∧ ((SqL X.K H p ys ∧ ∀ l, H l = none → Q (.ref l) (upd H l (.tup ys))) ∨ (SqT X.K H p ys ∧ Q (.ref p) H))) := by
  intro pins s σ H xs us Q I r h
  obtain ⟨p, ys, rfl, h⟩ := h
  obtain ⟨u, rfl, rx⟩ := vals1 r
  cases rx
  rcases h with ⟨hq, q⟩ | ⟨hq, q⟩
  · obtain ⟨its, r', pl, hz⟩ := I.list hq
    have hlen := r'.length
    refine call_tuple_list pl.isList (fun h' kp => ?_) (by simp only [List.size_toArray] <;> omega)
    have I1 : Inv X pins σ H { s with heap := h' } := I.kept (t' := s.toks) kp
    have I2 : Inv X pins σ (upd H h'.objs.size (.tup ys)) { s with heap := h'.push { cls := .type "tuple", data := .seq its.toArray } } :=
      I1.laid (t' := s.toks) (fun b o e => Heap.get?_push_of_some _ e) (Nat.le_refl _) (show ObjOk X.prog X.w _ _ _ (.tup ys) from ⟨hz, its, r', IsTup.new _ _⟩)
    exact ⟨.ref h'.objs.size, _, I2, rfl, q _ (I1.hok.fresh (Nat.le_refl _))⟩
  · obtain ⟨its, r', pl, hz⟩ := I.tuple hq
    exact call_tuple_same pl ⟨.ref p, H, I, rfl, q⟩

/-! ### the call of a builtin's method: o.m(..) -/
/-- the value is of that builtin type -/
def tyV (K : PySem.W.Frag) (T : String) (x : V) (H : Hp) : Prop := match x with
  | .str _ => T = "str"
  | .int _ => T = "int"
  | .ref p => (T = "list" ∧ ∃ xs, SqL K H p xs) ∨ (T = "tuple" ∧ ∃ o, K.lookup p = some o ∧ o.cls = .type "tuple" ∧ o.dict = none) ∨
      (T = "dict" ∧ ((∃ kvs, H p = some (.dK kvs)) ∨ ∃ kvs, H p = some (.dT kvs))) ∨ (T = "set" ∧ ∃ S n, H p = some (.set S n))
  | _ => False
theorem tyV_is {pins : List (Addr × Obj)} {σ : St} {H : Hp} {s : Shared} {T : String} {x : V} {v : Value} (I : Inv X pins σ H s) (r : RelV x v) (ty : tyV X.K T x H) :
    s.TypeIs v T ∧ ∀ a, v = .ref a → ∃ ob, s.heap.get? a = some ob ∧ ob.dict = none := by
  cases x with
  | str z =>
    obtain ⟨t, rfl⟩ := r
    cases (show T = "str" from ty)
    exact ⟨typeIs_str s z t, fun _ e => nomatch e⟩
  | int i =>
    obtain ⟨t, rfl⟩ := r
    cases (show T = "int" from ty)
    exact ⟨typeIs_int s i t, fun _ e => nomatch e⟩
  | ref p =>
    cases r
    rcases ty with ⟨rfl, xs, hq⟩ | ⟨rfl, o, hk, hc, hd⟩ | ⟨rfl, hk⟩ | ⟨rfl, S, n, hk⟩
    · obtain ⟨its, _, pl, _⟩ := I.list hq
      refine ⟨pl.isList.typeIs, fun a e => ?_⟩
      cases e
      obtain ⟨o, n, e, c, hd, _⟩ := pl
      exact ⟨o, e, hd⟩
    · refine ⟨⟨o, I.kIn p o hk, hc⟩, fun a e => ?_⟩
      cases e
      exact ⟨o, I.kIn _ o hk, hd⟩
    · have z : ∃ o, s.heap.get? p = some o ∧ o.ExactDict := by
        rcases hk with ⟨kvs, hk⟩ | ⟨kvs, hk⟩
        · obtain ⟨_, _, _, _, o, _, _, e, ex, _⟩ := I.hok p _ hk
          exact ⟨o, e, ex⟩
        · obtain ⟨_, _, _, _, o, _, _, e, ex, _⟩ := I.hok p _ hk
          exact ⟨o, e, ex⟩
      obtain ⟨o, e, ex⟩ := z
      refine ⟨⟨o, e, ex.1⟩, fun a e2 => ?_⟩
      cases e2
      exact ⟨o, e, ex.2.1⟩
    · obtain ⟨o, _, _, _, e, ex, _⟩ := I.hok p _ hk
      refine ⟨⟨o, e, ex.1⟩, fun a e2 => ?_⟩
      cases e2
      exact ⟨o, e, ex.2.1⟩
  | _ => exact False.elim ty
def tBM0 (K : PySem.W.Frag) (T : String) (r : V → List V → Hp → VK → Prop) (to : TE) : TE := fun σ H Q => to σ H fun x H1 => tyV K T x H1 ∧ r x [] H1 Q
def tBM (K : PySem.W.Frag) (T : String) (r : V → List V → Hp → VK → Prop) (to : TE) (t : TA) : TE := fun σ H Q => to σ H fun x H1 => tyV K T x H1 ∧ t σ H1 fun xs H2 => r x xs H2 Q
variable {o e : Expr} {es : List Expr} {to : TE} {t : TA} {name : Str} {apos cpos : Pos} {T id : String} {r : V → List V → Hp → VK → Prop}
theorem pe_bm0 (pa : PlainAttrs T) (slot : Slot T name id) (hty : typeOf (.builtin id) = pure (.type "method_descriptor")) (hm : MtR X id r) (ho : PE X o to)
    (hbase : attributeBase o name X.env (eval o X.env) = eval o X.env := by rfl) (hline : (apos.endLine == cpos.line) = true := by rfl) : PE X (.Call (.Attribute o name apos) [] [] cpos) (tBM0 X.K T r to) := by
  intro pins s σ H Q I h
  refine wpAny_Call_method0_late hbase hline (thn (ho pins s σ H _ I h) fun v s1 ⟨x, H1, I1, r1, ty, q1⟩ => ?_)
  obtain ⟨h1, h2⟩ := tyV_is I1 r1 ty
  exact ⟨T, id, pa, slot, hty, h1, h2, Calls.callWith_builtin rfl (PySem.evalArgs_none (hm pins s1 σ H1 x [] v [] Q I1 r1 .nil q1))⟩
theorem pe_bm (pa : PlainAttrs T) (slot : Slot T name id) (hty : typeOf (.builtin id) = pure (.type "method_descriptor")) (hm : MtR X id r) (ho : PE X o to) (ha : PA X (e :: es) t)
    (hbase : attributeBase o name X.env (eval o X.env) = eval o X.env := by rfl)
    (hfew : ((backTo cpos (starEach (e :: es) X.env)).all (fun x => !x.1) && (backToKw cpos (keywordEach [] X.env)).all (fun x => x.1.isSome)
      && decide ((e :: es).length + ([] : List Keyword).length + (if ([] : List Keyword).isEmpty then 0 else 1) < 30)) = true := by rfl)
    (hline : (apos.endLine == cpos.line) = true := by rfl) (hs : starEach (e :: es) X.env = (false, eval e X.env) :: starEach es X.env := by rfl) (hplain : (backTo cpos (starEach es X.env)).any (·.1) = false := by rfl) :
    PE X (.Call (.Attribute o name apos) (e :: es) [] cpos) (tBM X.K T r to t) := by
  intro pins s σ H Q I h
  refine wpAny_Call_method_late hbase hfew hline rfl (thn (ho pins s σ H _ I h) fun v s1 ⟨x, H1, I1, r1, ty, q1⟩ => ?_)
  obtain ⟨h1, h2⟩ := tyV_is I1 r1 ty
  refine ⟨T, id, pa, slot, hty, h1, h2, ?_⟩
  have hA := ha cpos pins s1 σ H1 _ I1 q1
  rw [hs] at hA ⊢
  refine Calls.callWith_builtin (by show (false || (backTo cpos (starEach es X.env)).any (·.1)) = false; rw [hplain] <;> rfl) (Calls.evalArgs_plain ?_)
  exact thn hA fun us s2 ⟨vs, H2, I2, r2, q2⟩ => hm pins s2 σ H2 x vs v us Q I2 r1 r2 q2
/- xs.append(e), list.index on a module's tuple .. are MtR facts of 06m -/
end
end L2

namespace L2
open PySem PySem.Spec PyProof.Rows

def MtM (X : Cx) (id : String) (r : V → List V → Hp → VK → Prop) : Prop :=
  ∀ (pins : List (Addr × Obj)) (s : Shared) (σ : St) (H : Hp) (x : V) (xs : List V) (v : Value) (us : List Value) (Q : VK), Inv X pins σ H s → RelV x v → Vals xs us → r x xs H Q →
    wpAny (model X.prog X.w) X.A (call (.builtin id) (v :: us)) (EP X pins σ Q) X.xe s

/-! ### lists of values -/
theorem Vals.one : ∀ {x : V} {us : List Value}, Vals [x] us → ∃ u, us = [u] ∧ RelV x u
  | _, _, .cons r .nil => ⟨_, rfl, r⟩
theorem Vals.two : ∀ {x y : V} {us : List Value}, Vals [x, y] us → ∃ u v, us = [u, v] ∧ RelV x u ∧ RelV y v
  | _, _, _, .cons r (.cons q .nil) => ⟨_, _, rfl, r, q⟩
theorem Vals.zero : ∀ {us : List Value}, Vals [] us → us = []
  | _, .nil => rfl
theorem Vals.dropLast {xs : List V} {us : List Value} (h : Vals xs us) : Vals xs.dropLast us.dropLast := by
  induction h with
  | nil => exact .nil
  | cons r t ih =>
    cases t with
    | nil => exact .nil
    | cons q t' => exact .cons r ih
theorem Vals.eraseIdx : ∀ {xs : List V} {us : List Value} (i : Nat), Vals xs us → Vals (xs.eraseIdx i) (us.eraseIdx i)
  | _, _, _, .nil => .nil
  | _, _, 0, .cons _ t => t
  | _, _, i + 1, .cons r t => .cons r (Vals.eraseIdx i t)
theorem Vals.reverse {xs : List V} {us : List Value} (h : Vals xs us) : Vals xs.reverse us.reverse := by
  induction h with
  | nil => exact .nil
  | cons r t ih => rw [List.reverse_cons, List.reverse_cons]; exact Vals.append ih (.cons r .nil)
theorem Vals.rep {xs : List V} {us : List Value} (h : Vals xs us) : ∀ k : Nat, Vals (List.replicate k xs).flatten (List.replicate k us).flatten
  | 0 => .nil
  | k + 1 => by
    rw [List.replicate_succ, List.replicate_succ, List.flatten_cons, List.flatten_cons]
    exact Vals.append h (Vals.rep h k)
theorem erase_last {α : Type} (l : List α) : l.eraseIdx (l.length - 1) = l.dropLast := by
  induction l with
  | nil => rfl
  | cons a r ih =>
    cases r with
    | nil => rfl
    | cons b r =>
      have e : (a :: b :: r).length - 1 = ((b :: r).length - 1) + 1 := by
        have h1 : (a :: b :: r).length = r.length + 2 := rfl
        have h2 : (b :: r).length = r.length + 1 := rfl
        omega
      rw [e, List.eraseIdx_cons_succ, ih]
      all_goals rfl
theorem len_erase {α : Type} : ∀ (l : List α) (i : Nat), (l.eraseIdx i).length ≤ l.length
  | [], _ => Nat.le_refl _
  | _ :: _, 0 => Nat.le_succ _
  | _ :: r, i + 1 => Nat.succ_le_succ (len_erase r i)
theorem foldl_rep (its : List Value) : ∀ (k : Nat) (acc : List Value),
    List.foldl (fun x1 x2 => x1 ++ x2) acc.toArray (List.replicate k its.toArray) = (acc ++ (List.replicate k its).flatten).toArray
  | 0, acc => by simp
  | k + 1, acc => by
    have e : acc.toArray ++ its.toArray = (acc ++ its).toArray := by simp
    have e2 : (acc ++ its) ++ (List.replicate k its).flatten = acc ++ (List.replicate (k + 1) its).flatten := by
      rw [List.replicate_succ, List.flatten_cons, List.append_assoc]
    rw [← e2, ← foldl_rep its k (acc ++ its), ← e, List.replicate_succ, List.foldl_cons]

section
variable {X : Cx} {pins : List (Addr × Obj)} {σ : St} {H : Hp} {s : Shared} {l b : Addr} {xs ys zs : List V}

/-! ### the two steps: a tracked list is rewritten, a new list is laid -/
theorem Inv.lset {its its' : List Value} {n : Nat} {f : Array Value → Array Value} {t' : Nat} (I : Inv X pins σ H s) (hH : H l = some (.lst xs))
    (e : s.heap.get? l = some { cls := .type "list", data := .seq its.toArray n }) (hf : f its.toArray = its'.toArray) (hv : Vals ys its') (hz : ys.length ≤ sizeLine) :
    Inv X pins σ (upd H l (.lst ys)) { s with heap := s.heap.update l (Obj.mapSeq f), toks := t' } := by
  have q := PySem.IsL.update e f
  rw [hf] at q
  refine I.write (x := l) (e := l) (by rw [hH]; exact trivial) (.inl rfl) (fun b' u hb hu => (Heap.get?_update_other s.heap (Obj.mapSeq f) (Ne.symm hb)).trans hu) ⟨_, q⟩ ?_
  exact ⟨hz, its', _, hv, q⟩
theorem Inv.lnew {its : List Value} {t' : Nat} (I : Inv X pins σ H s) (hv : Vals ys its) (hz : ys.length ≤ sizeLine) :
    Inv X pins σ (upd H s.heap.objs.size (.lst ys)) { s with heap := s.heap.push { cls := .type "list", data := .seq its.toArray }, toks := t' } :=
  I.laid (fun _ _ q => Heap.get?_push_of_some _ q) (Nat.le_refl _) ⟨hz, its, 0, hv, Heap.get?_push_size _ rfl⟩
theorem Inv.fresh (I : Inv X pins σ H s) : H s.heap.objs.size = none := I.hok.fresh (Nat.le_refl _)
theorem Inv.lstM (I : Inv X pins σ H s) (hH : H l = some (.lst xs)) : xs.length ≤ sizeLine ∧ ∃ (its : List Value) (n : Nat), Vals xs its ∧ xs.length = its.length ∧ s.heap.get? l = some { cls := .type "list", data := .seq its.toArray n } := by
  obtain ⟨z, its, n, r, e⟩ := I.hok l _ hH
  exact ⟨z, its, n, r, r.length, e⟩

theorem notLongL {n : Nat} (h : n ≤ sizeLine) : Builtin.List.listTooLong n = false := by
  unfold Builtin.List.listTooLong
  exact decide_eq_false (by omega)
end

section
variable {X : Cx}

/-! ### methods -/
def rAppend : V → List V → Hp → VK → Prop := fun x vs H Q => ∃ l xs y, x = .ref l ∧ vs = [y] ∧ H l = some (.lst xs) ∧ xs.length < sizeLine ∧ Q .non (upd H l (.lst (xs ++ [y])))
theorem mt_append : MtM X "list.append" rAppend := by
  intro pins s σ H x vs v us Q I rx rv h
  obtain ⟨l, xs, y, rfl, rfl, hH, hz, q⟩ := h
  cases rx
  obtain ⟨u, rfl, ru⟩ := rv.one
  obtain ⟨z, its, n, r, hl, e⟩ := I.lstM hH
  refine call_meets F.slot_list_append ⟨_, e, rfl⟩ F.entry_list_append (F.args_list_append_2 _ _) (PySem.list_append l its.toArray n u (by rw [List.size_toArray]; omega)) ⟨e, ?_⟩
  refine ⟨.non, _, I.lset (its' := its ++ [u]) hH e (by simp) (r.append (.cons ru .nil)) ?_, rfl, q⟩
  rw [List.length_append, List.length_singleton]
  omega

def rExtend : V → List V → Hp → VK → Prop := fun x vs H Q => ∃ l b xs zs, x = .ref l ∧ vs = [.ref b] ∧ H l = some (.lst xs) ∧ H b = some (.lst zs) ∧ xs.length + zs.length ≤ sizeLine ∧ Q .non (upd H l (.lst (xs ++ zs)))
theorem mt_extend : MtM X "list.extend" rExtend := by
  intro pins s σ H x vs v us Q I rx rv h
  obtain ⟨l, b, xs, zs, rfl, rfl, hH, hB, hz, q⟩ := h
  cases rx
  obtain ⟨u, rfl, ru⟩ := rv.one
  cases ru
  obtain ⟨z, its, n, r, hl, e⟩ := I.lstM hH
  obtain ⟨z2, its2, n2, r2, hl2, e2⟩ := I.lstM hB
  have hsz : its.toArray.size + its2.toArray.size ≤ sizeLine := by rw [List.size_toArray, List.size_toArray]; omega
  have hlong : ¬ (!its.toArray.isEmpty && Builtin.List.listTooLong (its.toArray.size + its2.toArray.size)) = true := by
    rw [notLongL hsz, Bool.and_false]
    exact Bool.false_ne_true
  refine call_meets F.slot_list_extend ⟨_, e, rfl⟩ F.entry_list_extend (F.args_list_extend_2 _ _)
    (AutoSeq1.list_extend_list_list_0 l its.toArray n b its2.toArray n2 hlong (by rw [List.size_toArray]; omega) (by omega)) ⟨e, e2, ?_⟩
  refine ⟨.non, _, I.lset (its' := its ++ its2) hH e (by simp) (r.append r2) ?_, rfl, q⟩
  rw [List.length_append]
  omega

def rPop : V → List V → Hp → VK → Prop := fun x vs H Q => ∃ l xs y, x = .ref l ∧ vs = [] ∧ H l = some (.lst xs) ∧ xs[xs.length - 1]? = some y ∧ Q y (upd H l (.lst xs.dropLast))
theorem mt_pop : MtM X "list.pop" rPop := by
  intro pins s σ H x vs v us Q I rx rv h
  obtain ⟨l, xs, y, rfl, rfl, hH, hy, q⟩ := h
  cases rx
  have hus := rv.zero
  subst hus
  obtain ⟨z, its, n, r, hl, e⟩ := I.lstM hH
  obtain ⟨u, hu, ru⟩ := r.get hy
  have hy' : its.toArray[its.toArray.size - 1]? = some u := by
    show its.toArray[its.length - 1]? = some u
    rw [← Array.getElem?_toList, ← hl]
    exact hu
  refine call_meets F.slot_list_pop ⟨_, e, rfl⟩ F.entry_list_pop (F.args_list_pop_1 _) (MeetsSeq.list_pop_last l its.toArray n u hy' (by rw [List.size_toArray]; omega)) ⟨e, ?_⟩
  refine ⟨y, _, I.lset (its' := its.dropLast) hH e ?_ r.dropLast ?_, ru, q⟩
  · show its.toArray.eraseIdxIfInBounds (its.toArray.size - 1) = its.dropLast.toArray
    rw [List.size_toArray, List.eraseIdxIfInBounds_toArray, erase_last]
  · rw [List.length_dropLast]
    omega

def rPopAt : V → List V → Hp → VK → Prop := fun x vs H Q => ∃ l xs i k y, x = .ref l ∧ vs = [.int i] ∧ H l = some (.lst xs) ∧ -(2 ^ 63) ≤ i ∧ i < 2 ^ 63 ∧ seqIndex? i xs.length = some k ∧ xs[k]? = some y ∧ Q y (upd H l (.lst (xs.eraseIdx k)))
theorem mt_popAt : MtM X "list.pop" rPopAt := by
  intro pins s σ H x vs v us Q I rx rv h
  obtain ⟨l, xs, i, k, y, rfl, rfl, hH, h1, h2, hk, hy, q⟩ := h
  cases rx
  obtain ⟨u, rfl, ru⟩ := rv.one
  obtain ⟨t, rfl⟩ := ru
  obtain ⟨z, its, n, r, hl, e⟩ := I.lstM hH
  obtain ⟨w, hw, rw'⟩ := r.get hy
  refine call_meets F.slot_list_pop ⟨_, e, rfl⟩ F.entry_list_pop (F.args_list_pop_2 _ _)
    (MeetsSeq.list_pop_at l its.toArray n i t k w (fitsIndex_both h1 h2) (by rw [List.size_toArray, ← hl]; exact hk) (by rw [← Array.getElem?_toList]; exact hw) (by rw [List.size_toArray]; omega)) ⟨e, ?_⟩
  refine ⟨y, _, I.lset (its' := its.eraseIdx k) hH e ?_ (r.eraseIdx k) ?_, rw', q⟩
  · show its.toArray.eraseIdxIfInBounds k = (its.eraseIdx k).toArray
    rw [List.eraseIdxIfInBounds_toArray]
  · have := len_erase xs k
    omega

def rReverse : V → List V → Hp → VK → Prop := fun x vs H Q => ∃ l xs, x = .ref l ∧ vs = [] ∧ H l = some (.lst xs) ∧ Q .non (upd H l (.lst xs.reverse))
theorem mt_reverse : MtM X "list.reverse" rReverse := by
  intro pins s σ H x vs v us Q I rx rv h
  obtain ⟨l, xs, rfl, rfl, hH, q⟩ := h
  cases rx
  have hus := rv.zero
  subst hus
  obtain ⟨z, its, n, r, hl, e⟩ := I.lstM hH
  refine call_meets F.slot_list_reverse ⟨_, e, rfl⟩ F.entry_list_reverse (F.args_list_reverse_1 _) (AutoSeq1.list_reverse_list_0 l its.toArray n (by rw [List.size_toArray]; omega)) ⟨e, ?_⟩
  refine ⟨.non, _, I.lset (its' := its.reverse) hH e (by simp) r.reverse ?_, rfl, q⟩
  rw [List.length_reverse]
  omega

def rClear : V → List V → Hp → VK → Prop := fun x vs H Q => ∃ l xs, x = .ref l ∧ vs = [] ∧ H l = some (.lst xs) ∧ Q .non (upd H l (.lst []))
theorem mt_clear : MtM X "list.clear" rClear := by
  intro pins s σ H x vs v us Q I rx rv h
  obtain ⟨l, xs, rfl, rfl, hH, q⟩ := h
  cases rx
  have hus := rv.zero
  subst hus
  obtain ⟨z, its, n, r, hl, e⟩ := I.lstM hH
  refine call_meets F.slot_list_clear ⟨_, e, rfl⟩ F.entry_list_clear (F.args_list_clear_1 _) (AutoSeq1.list_clear_list_0 l its.toArray n (by rw [List.size_toArray]; omega)) ⟨e, ?_⟩
  exact ⟨.non, _, I.lset (its' := []) (ys := []) hH e rfl .nil (Nat.zero_le _), rfl, q⟩

/-! ### list + list, list += list, list * int -/
def rCat : R2 := fun x y H Q => ∃ l b xs zs, x = .ref l ∧ y = .ref b ∧ H l = some (.lst xs) ∧ H b = some (.lst zs) ∧ xs.length + zs.length ≤ sizeLine ∧ ∀ p, H p = none → Q (.ref p) (upd H p (.lst (xs ++ zs)))
theorem op_cat : OpR X (binaryOp .Add) rCat := by
  intro pins s σ H x y v u Q I rx ry h
  obtain ⟨l, b, xs, zs, rfl, rfl, hH, hB, hz, q⟩ := h
  cases rx
  cases ry
  obtain ⟨z, its, n, r, hl, e⟩ := I.lstM hH
  obtain ⟨z2, its2, n2, r2, hl2, e2⟩ := I.lstM hB
  refine PySem.P.add_list e e2 ?_ (by rw [List.size_toArray, List.size_toArray]; omega)
  have ea : its.toArray ++ its2.toArray = (its ++ its2).toArray := by simp
  rw [ea]
  exact ⟨.ref _, _, I.lnew (t' := s.toks) (r.append r2) (by rw [List.length_append]; omega), rfl, q _ I.fresh⟩
/-- a list times an int (a negative one is nothing) -/
def rRep : R2 := fun x y H Q => ∃ l k xs, x = .ref l ∧ y = .int k ∧ H l = some (.lst xs) ∧ -(2 ^ 63) ≤ k ∧ k < 2 ^ 63 ∧ xs.length * k.toNat ≤ sizeLine ∧
  ∀ p, H p = none → Q (.ref p) (upd H p (.lst (List.replicate k.toNat xs).flatten))
theorem len_rep {α : Type} (xs : List α) (k : Nat) : (List.replicate k xs).flatten.length = k * xs.length := by
  induction k with
  | zero => simp
  | succ k ih => rw [List.replicate_succ, List.flatten_cons, List.length_append, ih, Nat.succ_mul, Nat.add_comm]
theorem op_rep : OpR X (binaryOp .Mult) rRep := by
  intro pins s σ H x y v u Q I rx ry h
  obtain ⟨l, k, xs, rfl, rfl, hH, h1, h2, hz, q⟩ := h
  cases rx
  obtain ⟨t, rfl⟩ := ry
  obtain ⟨z, its, n, r, hl, e⟩ := I.lstM hH
  have hlen : its.toArray.size * k.toNat ≤ sizeLine := by rw [List.size_toArray, ← hl]; exact hz
  have hcap : ¬ its.toArray.size * k.toNat > (2 ^ 63 - 1) / 8 := by
    have : (sizeLine : Nat) ≤ (2 ^ 63 - 1) / 8 := by decide
    omega
  have hfit : ¬ (!Builtin.List.listFitsIndex k) = true := by
    rw [fitsIndex_both h1 h2]
    exact Bool.false_ne_true
  have hlong : ¬ Builtin.List.listTooLong (its.toArray.size * k.toNat) = true := by
    rw [notLongL hlen]
    exact Bool.false_ne_true
  have hnew : List.foldl (fun x1 x2 => x1 ++ x2) #[] (List.replicate (if its.toArray.isEmpty = true then 0 else k.toNat) its.toArray) = (List.replicate k.toNat its).flatten.toArray := by
    have f0 : ∀ m : Nat, List.foldl (fun x1 x2 => x1 ++ x2) #[] (List.replicate m its.toArray) = (List.replicate m its).flatten.toArray := fun m => by
      have := foldl_rep its m []
      rw [List.nil_append] at this
      exact this
    rw [f0]
    cases its with
    | nil => simp
    | cons a r' => rw [if_neg (by simp)]
  refine wpAny_binaryOp_repeat_ref (T := "list") (U := "int") (by decide) ⟨_, e, rfl⟩ (fun s' => typeIs_int s' k t) noFill_list_mul F.fills_int_mul F.slot_int_rmul repeat_list F.slot_int_index.lookup
    (call_meets F.slot_int_rmul (typeIs_int s k t) F.entry_int_rmul (F.args_int_rmul_2 _ _) (int___rmul___int_list k t l its.toArray n)
      ⟨e, rfl, ⟨_, e, rfl⟩, call_meets F.slot_list_mul ⟨_, e, rfl⟩ F.entry_list_mul (F.args_list_mul_2 _ _) (AutoListH.list___mul___list_int_3 l its.toArray n k t hfit hcap hlong) ⟨e, ?_⟩⟩)
  rw [hnew]
  exact ⟨.ref _, _, I.lnew (t' := s.toks) (r.rep k.toNat) (by rw [len_rep, Nat.mul_comm]; exact hz), rfl, q _ I.fresh⟩

/-! ### del xs[i] -/
theorem del_list {pins : List (Addr × Obj)} {s : Shared} {σ : St} {H : Hp} {l : Addr} {xs : List V} {i : Int} {t : Tok} {k : Nat} {Q : Unit → Shared → Prop} (I : Inv X pins σ H s) (hH : H l = some (.lst xs))
    (h1 : -(2 ^ 63) ≤ i) (h2 : i < 2 ^ 63) (hk : seqIndex? i xs.length = some k) (h : ∀ s', Inv X pins σ (upd H l (.lst (xs.eraseIdx k))) s' → Q () s') :
    wpAny (model X.prog X.w) X.A (delItem (.ref l) (.int i t)) Q X.xe s := by
  obtain ⟨z, its, n, r, hl, e⟩ := I.lstM hH
  refine PySem.P.delItem_list (k := k) e (fitsIndex_both h1 h2) (by rw [List.size_toArray, ← hl]; exact hk) (h _ ?_) (by rw [List.size_toArray]; omega)
  refine I.lset (its' := its.eraseIdx k) (t' := s.toks) hH e ?_ (r.eraseIdx k) ?_
  · show its.toArray.eraseIdxIfInBounds k = (its.eraseIdx k).toArray
    rw [List.eraseIdxIfInBounds_toArray]
  · have := len_erase xs k
    omega
end

/-! ### xs[a:b] = ys -/
section
variable {prog : Program} {w : World} {A : Around} {E : Value → Shared → Prop} {s : Shared}
theorem splice_eq (its its2 : List Value) (a c : Nat) : its.toArray.extract 0 a ++ its2.toArray ++ its.toArray.extract c its.toArray.size = (its.take a ++ its2 ++ its.drop c).toArray := by
  apply Array.toList_inj.mp
  first
    | (simp
       exact List.take_of_length_le (by simp))
    | simp [List.take_of_length_le]
    | simp
theorem bounds_run {a c n : Nat} (hac : a ≤ c) (hc : c ≤ n) : sliceBounds (some (a : Int)) (some (c : Int)) none n = ((a : Int), (c : Int), 1) := by
  simp only [sliceBounds, Option.getD_none]
  have h1 : ¬ ((a : Int) < 0) := by omega
  have h2 : ¬ ((c : Int) < 0) := by omega
  simp only [h1, h2, if_false, show (1 : Int) > 0 by decide, if_true]
  congr 1
  · omega
  · congr 1; omega
set_option maxRecDepth 100000 in
/-- list.__setitem__ with a slice of step one and another list -/
theorem setItem_slice {l b sl : Addr} {items new : Array Value} {n n2 : Nat} {vl vu : Value} {a c : Nat} {Q : Unit → Shared → Prop}
    (e : s.heap.get? l = some { cls := .type "list", data := .seq items n }) (e2 : s.heap.get? b = some { cls := .type "list", data := .seq new n2 }) (hne : l ≠ b)
    (hs : s.heap.IsSliceOf sl vl vu .none) (pl : IsPart vl (some (a : Int))) (pu : IsPart vu (some (c : Int))) (hac : a ≤ c) (hc : c ≤ items.size)
    (hsz : items.size + new.size ≤ sizeLine) (h : Q () { s with heap := s.heap.update l (Obj.mapSeq fun xs => xs.extract 0 a ++ new ++ xs.extract c xs.size) }) :
    wpAny (model prog w) A (setItem (.ref l) (.ref sl) (.ref b)) Q E s := by
  have hl : s.heap.IsList l items := PySem.IsL.isList e
  have hb : s.heap.IsList b new := PySem.IsL.isList e2
  obtain ⟨os, hos, hcs, hds⟩ := id hs
  have hTs : s.TypeIs (.ref sl) "slice" := ⟨os, hos, hcs⟩
  have hstep : ¬ ((rawPart none == rawInt 0) = true) := Bool.false_ne_true
  have hsame : Builtin.List.listSameRef (.ref l) (.ref b) = false := by
    unfold Builtin.List.listSameRef
    exact beq_eq_false_iff_ne.mpr hne
  have hmax : (max (a : Int) (c : Int)).toNat = c := by omega
  have hz' : ((fun xs : Array Value => xs.extract 0 a ++ new ++ xs.extract c xs.size) items).size ≤ sizeLine + 1 := by
    simp only [Array.size_append, Array.size_extract]
    omega
  unfold setItem
  try with_reducible refine wpAny_holding ?_
  first | refine wpAny_bind (wpAny_pure ?_) | skip
  refine wpAny_bind (wpAny_sequenceKey hl.typeIs (by decide) ?_)
  refine wpAny_bind (wpAny_callSpecial?_slot (name := Str.ofString "__setitem__") hl.typeIs slot_list_setitem
    (wpAny_call_entry slot_list_setitem hl.typeIs entry_list_setitem ?_ (args_list_setitem _ _ _)))
  show wpAny _ _ (Builtin.List.listSubscript? (.ref sl) >>= _) _ _ s
  refine wpAny_bind ?_
  unfold Builtin.List.listSubscript?
  refine wpAny_bind (wpAny_specialOf hTs slice_no_index ?_)
  simp only [Option.isNone_none, if_true]
  refine wpAny_pure ?_
  show wpAny _ _ (typeOf (.ref sl) >>= _) _ _ s
  refine wpAny_bind (wpAny_typeOf hTs ?_)
  first
    | rw [if_neg (by decide)]
    | refine PySem.W.KFB.if_not (by decide) ?_
  rw [listSliceParts_eq]
  refine wpAny_bind (wpAny_bind (wpAny_field hos hds (x := .none) rfl (wpAny_bind (wpAny_listPart .none ?_))))
  rw [if_neg hstep]
  refine wpAny_bind (wpAny_field hos hds (x := vl) rfl (wpAny_bind (wpAny_listPart pl ?_)))
  refine wpAny_bind (wpAny_field hos hds (x := vu) rfl (wpAny_bind (wpAny_listPart pu (wpAny_pure ?_))))
  first
    | simp only [hsame, Bool.false_eq_true, if_false]
    | refine PySem.W.KFB.if_not hsame ?_
    | (dsimp only
       rw [if_neg (by rw [hsame]; exact Bool.false_ne_true)])
  refine wpAny_bind (m := Builtin.List.listAllItems (.ref b) "must assign iterable to extended slice") ?_
  unfold Builtin.List.listAllItems
  refine wpAny_bind (wpAny_typeOf hb.typeIs ?_)
  first
    | refine PySem.W.KFB.if_so (by decide) ?_
    | rw [if_pos (by decide)]
    | simp only [beq_self_eq_true, Bool.true_or, if_true]
  unfold Builtin.List.listItems
  refine wpAny_bind (wpAny_seqItems e2 rfl (wpAny_pure ?_))
  refine wpAny_bind (wpAny_bind (wpAny_seqItems e rfl (wpAny_pure ?_)))
  refine wpAny_bind (wpAny_of_eq ((sliceIndices_raw (some (a : Int)) (some (c : Int)) none items.size (by simp)).trans (congrArg (pure : Int × Int × Int → Sem (Int × Int × Int)) (bounds_run hac hc))) ?_)
  show wpAny _ _ (if ((1 : Int) == 1) = true then _ else _) _ _ s
  rw [if_pos (by decide)]
  refine wpAny_bind (wpAny_rule ?_)
  first
    | simp only [notLongL hsz, Bool.false_eq_true, if_false]
    | refine PySem.W.KFB.if_not (notLongL hsz) ?_
  first | refine wpAny_bind (wpAny_pure ?_) | skip
  show wpAny _ _ (updateSeq l (fun xs => xs.extract 0 ((a : Int)).toNat ++ new ++ xs.extract (max (a : Int) (c : Int)).toNat xs.size) >>= _) _ _ s
  rw [hmax, Int.toNat_natCast]
  refine wpAny_bind (wpAny_updateSeq (hz := Nat.le_trans (Nat.le_add_right _ _) hsz) (_hz' := hz') e rfl ?_)
  refine wpAny_bind (wpAny_letGo ?_)
  first
    | exact wpAny_bind (wpAny_pure (wpAny_pure ⟨.none, rfl, wpAny_pure h⟩))
    | exact wpAny_pure ⟨.none, rfl, wpAny_pure h⟩
end

section
variable {X : Cx}
/-- xs[a:c] = ys of another list, at the value level: sl is the slice object that was just made -/
theorem set_slice {pins : List (Addr × Obj)} {s : Shared} {σ : St} {H : Hp} {l b sl : Addr} {xs ys : List V} {a c : Int} {vl vu : Value} {Q : Unit → Shared → Prop} (I : Inv X pins σ H s)
    (hH : H l = some (.lst xs)) (hB : H b = some (.lst ys)) (hne : l ≠ b) (hs : s.heap.IsSliceOf sl vl vu .none) (ra : RelV (.int a) vl) (rc : RelV (.int c) vu) (h0 : 0 ≤ a) (hac : a ≤ c) (hc : c ≤ xs.length)
    (hz : xs.length + ys.length ≤ sizeLine) (h : ∀ s', Inv X pins σ (upd H l (.lst (xs.take a.toNat ++ ys ++ xs.drop c.toNat))) s' → Q () s') :
    wpAny (model X.prog X.w) X.A (setItem (.ref l) (.ref sl) (.ref b)) Q X.xe s := by
  obtain ⟨ta, rfl⟩ := ra
  obtain ⟨tc, rfl⟩ := rc
  obtain ⟨z, its, n, r, hl, e⟩ := I.lstM hH
  obtain ⟨z2, its2, n2, r2, hl2, e2⟩ := I.lstM hB
  obtain ⟨a', rfl⟩ := Int.eq_ofNat_of_zero_le h0
  obtain ⟨c', rfl⟩ := Int.eq_ofNat_of_zero_le (Int.le_trans h0 hac)
  simp only [Int.toNat_natCast] at h
  refine setItem_slice (a := a') (c := c') e e2 hne hs (.int _ _) (.int _ _) (by omega) (by rw [List.size_toArray]; omega) (by rw [List.size_toArray, List.size_toArray]; omega) (h _ ?_)
  refine I.lset (its' := its.take a' ++ its2 ++ its.drop c') (t' := s.toks) hH e ?_ (Vals.append (Vals.append (r.take _) r2) (r.drop _)) ?_
  · exact splice_eq its its2 a' c'
  · rw [List.length_append, List.length_append, List.length_take, List.length_drop]
    omega
end
end L2

namespace Att
open PySem PySem.W PySem.Calls PyProof.Rows

/-! ### the script -/
theorem ints_of_wellAll {P : Params} {h : Heap} : ∀ (ns : List Int) (vs : List Value), WellAll P h vs (ns.map WData.int) → IntsAre vs ns := by
  intro ns
  induction ns with
  | nil =>
    intro vs w
    rw [List.map_nil] at w
    cases w
    exact .nil
  | cons n ns ih =>
    intro vs w
    rw [List.map_cons] at w
    cases w with
    | cons a b =>
      cases a
      exact .cons _ _ (ih _ b)

theorem script_of {l : OpenLaw} {n : Nat} (hn : l.most = some n) {P : Params} {h : Heap} {args : List WData} {vals : List Value}
    (hpre : l.row.toRowW.claim.pre args = true) (hwl : WellAll P h vals args) :
    ∃ a vs ns, vals = [Value.ref a] ∧ args = [WData.list (ns.map WData.int)] ∧ h.get? a = some { cls := .type "list", data := .seq vs.toArray } ∧ IntsAre vs ns ∧ ns.length ≤ n := by
  have hsh : WShape.hasAll [] args [.list .int] = true := (pre_splitW hpre).1
  have hc : l.pre.holds [] { args := args } = true := (pre_splitW hpre).2
  obtain ⟨d, r, rfl, h1, h2⟩ := hasAllW_cons hsh
  obtain rfl := hasAllW_nil h2
  obtain ⟨xs, rfl, h3⟩ := hasW_list h1
  obtain ⟨ns, rfl⟩ := items_int h3
  have hlen : ns.length ≤ n := by
    unfold OpenLaw.pre at hc
    have h4 : (WTm.not (.lt (.lit (.int (n : Int))) (.len (.arg 0)))).holds [] { args := [.list (ns.map .int)] } = true := by
      have h4 := (holds_andW hc).1
      rw [hn] at h4
      exact h4
    have h5 := condW_of h4 (w_not (w_lt w_lit (w_len_list (w_arg rfl))))
    rw [List.length_map] at h5
    refine Nat.le_of_not_lt fun q => ?_
    have q' : (n : Int) < ((ns.length : Nat) : Int) := by omega
    first
      | (rw [decide_eq_true q'] at h5; exact absurd h5 (by decide))
      | (simp at h5; omega)
  cases hwl with
  | cons w1 w2 =>
    cases w2
    cases w1 with
    | list ho hall => exact ⟨_, _, ns, rfl, rfl, ho, ints_of_wellAll ns _ hall, hlen⟩

theorem post_true (l : OpenLaw) (args : List WData) : l.row.toRowW.claim.post args (.bool true) args = true :=
  postW_of (r := l.row.toRowW) (X := (true == true))
    (show WShape.has [] (.bool true) .bool = true by first | rfl | decide | simp [WShape.has, WShape.arms, WShape.armsAll])
    (show (WTm.eq .res (.lit (.bool true))).value [] { args := args, res := some (.bool true), after := args } = some (.bool (true == true)) from w_eq_bool (w_res rfl) w_lit) rfl

/-! ### the attachment: holds_open's last premise (the goal 'hc' behind k_head) from a wpAny of the law's body -/
theorem attach {l : OpenLaw} {n : Nat} {q : Program} {loose : List Str} {XP : (Str → Option Value) → Heap → Prop} {YP : World → Heap → Prop} {d : DefRec} {x : Str}
    (hn : l.most = some n) (hdf : d.params.defaults = [])
    (hbind : ∀ pm cd doc v : Value, bindArgs (docDef d.name d.params d.body d.scope pm cd doc) ⟨[v], []⟩ = pure [(x, v)])
    (hx : d.scope.names.lookup x = some .local ∨ d.scope.names.lookup x = some .cell)
    (hk : d.scope.kind = .function) (hco : d.scope.isCoroutine = false) (hgen : d.scope.isGenerator = false)
    (body : ∀ (w : World) (s₀ s₁ s : Shared) (mg mb : Str → Option Value) (fa : Addr) (o : Obj) (pm cd doc : Value) (a : Addr) (vs : List Value) (ns : List Int),
      Ground q loose [] XP w s₀ mg mb s₁.heap → YP w s₁.heap →
      s₁.heap.get? fa = some o → o.data = .func (docDef d.name d.params d.body d.scope pm cd doc) → s₁.heap.CodeRec cd d.name → mg d.name = some (.ref fa) →
      s₁.heap.get? a = some { cls := .type "list", data := .seq vs.toArray } → IntsAre vs ns → ns.length ≤ n →
      s.gens = #[] → s.os = s₁.os →
      Fr s₁.heap s₁.heap.objs.size s.heap (bindL (envOfC d.name d.scope s₁.heap.objs.size fa cd).kindOf [(x, .ref a)] fun _ => none) →
      Cl s₁.heap.objs.size (cellsFrom (s₁.heap.objs.size + 1) d.scope.names []) s.heap (bindC (envOfC d.name d.scope s₁.heap.objs.size fa cd).kindOf [(x, .ref a)] fun _ => none) →
      wpAny (model l.prog w) (callerA.deeper (envOfC d.name d.scope s₁.heap.objs.size fa cd)) (execs d.body (envOfC d.name d.scope s₁.heap.objs.size fa cd))
        (fun f s' => f = .ret (.bool true) ∧ OldK s₁.heap s'.heap ∧ s'.os = s₁.os ∧ AllBare s'.gens) (fun _ _ => False) s) :
    WalkO q loose XP YP l.row.toRowW d [] (fun f vs => PySem.call f vs) := by
  intro w s₀ s₁ mg mb G Y fa o pm cd doc dV kV ho hd hcd hD hmg hg args vals as hpre hlay hrd hwl hlo
  obtain rfl : dV = .none := Dflts.none hD hdf
  obtain rfl : kV = .none := Dflts.noKw hD
  obtain ⟨a, vs, ns, rfl, rfl, hobj, hints, hlen⟩ := script_of hn hpre hwl
  refine enter_call ?_
  refine call_cells_ret (o := o) (by rw [depth_caller]; decide) ho (fd_plain hd) G.T.nolimit hcd (hbind pm cd doc (.ref a)) (fun y hy => ?_) (fun h₁ tk F X => ?_) hco hgen hk
  · obtain rfl : y = (x, Value.ref a) := List.mem_singleton.mp hy
    rcases hx with e | e
    · exact .inl e
    · exact .inr ⟨e, cellsFrom_some _ _ _ (.inl e)⟩
  · refine wpAny_mono (body w s₀ s₁ { s₁ with heap := h₁, toks := tk } mg mb fa o pm cd doc a vs ns G Y ho (fd_plain hd) hcd hmg hobj hints hlen hg rfl F X) (fun f s' hq => ?_) (fun _ _ hq => hq)
    obtain ⟨rfl, h2, h3, h4⟩ := hq
    exact ⟨.inl ⟨.bool true, .bool true, [], rfl, fun _ => rfl, .bool true, post_true l _, fun _ => ⟨List.Pairwise.nil, fun _ hm => (nomatch hm)⟩⟩, h2, h3, h4⟩

/-- the same from a codeAny of the CALL (for a layer whose function contracts speak of calls) -/
theorem attach_call {l : OpenLaw} {n : Nat} {q : Program} {loose : List Str} {XP : (Str → Option Value) → Heap → Prop} {YP : World → Heap → Prop} {d : DefRec}
    (hn : l.most = some n) (hdf : d.params.defaults = [])
    (call : ∀ (w : World) (s₀ s₁ : Shared) (mg mb : Str → Option Value) (fa : Addr) (o : Obj) (pm cd doc : Value) (a : Addr) (vs : List Value) (ns : List Int),
      Ground q loose [] XP w s₀ mg mb s₁.heap → YP w s₁.heap →
      s₁.heap.get? fa = some o → o.data = .func (docDef d.name d.params d.body d.scope pm cd doc) → s₁.heap.CodeRec cd d.name → mg d.name = some (.ref fa) →
      s₁.heap.get? a = some { cls := .type "list", data := .seq vs.toArray } → IntsAre vs ns → ns.length ≤ n → s₁.gens = #[] →
      codeAny (model l.prog w) callerA (.call (.ref fa) ⟨[.ref a], []⟩) (fun r s' => r = .ok (.ret (.bool true)) ∧ OldK s₁.heap s'.heap ∧ s'.os = s₁.os ∧ AllBare s'.gens) s₁) :
    WalkO q loose XP YP l.row.toRowW d [] (fun f vs => PySem.call f vs) := by
  intro w s₀ s₁ mg mb G Y fa o pm cd doc dV kV ho hd hcd hD hmg hg args vals as hpre hlay hrd hwl hlo
  obtain rfl : dV = .none := Dflts.none hD hdf
  obtain rfl : kV = .none := Dflts.noKw hD
  obtain ⟨a, vs, ns, rfl, rfl, hobj, hints, hlen⟩ := script_of hn hpre hwl
  refine enter_call (codeAny_mono (call w s₀ s₁ mg mb fa o pm cd doc a vs ns G Y ho (fd_plain hd) hcd hmg hobj hints hlen hg) fun r s' hq => ?_)
  obtain ⟨rfl, h2, h3, h4⟩ := hq
  exact ⟨.inl ⟨.bool true, .bool true, [], rfl, fun _ => rfl, .bool true, post_true l _, fun _ => ⟨List.Pairwise.nil, fun _ hm => (nomatch hm)⟩⟩, h2, h3, h4⟩

/-- the same where the top left finished generators (o_head chose holds_openN): nothing may have changed at all and no generator may be left -/
theorem attachN {l : OpenLaw} {n : Nat} {q : Program} {loose : List Str} {XP : (Str → Option Value) → Heap → Prop} {YP : World → Heap → Prop} {d : DefRec} {x : Str}
    (hn : l.most = some n) (hdf : d.params.defaults = [])
    (hbind : ∀ pm cd doc v : Value, bindArgs (docDef d.name d.params d.body d.scope pm cd doc) ⟨[v], []⟩ = pure [(x, v)])
    (hx : d.scope.names.lookup x = some .local ∨ d.scope.names.lookup x = some .cell)
    (hk : d.scope.kind = .function) (hco : d.scope.isCoroutine = false) (hgen : d.scope.isGenerator = false)
    (body : ∀ (w : World) (s₀ s₁ s : Shared) (mg mb : Str → Option Value) (fa : Addr) (o : Obj) (pm cd doc : Value) (a : Addr) (vs : List Value) (ns : List Int),
      Ground q loose [] XP w s₀ mg mb s₁.heap → YP w s₁.heap →
      s₁.heap.get? fa = some o → o.data = .func (docDef d.name d.params d.body d.scope pm cd doc) → s₁.heap.CodeRec cd d.name → mg d.name = some (.ref fa) →
      s₁.heap.get? a = some { cls := .type "list", data := .seq vs.toArray } → IntsAre vs ns → ns.length ≤ n →
      s.gens = #[] → s.os = s₁.os →
      Fr s₁.heap s₁.heap.objs.size s.heap (bindL (envOfC d.name d.scope s₁.heap.objs.size fa cd).kindOf [(x, .ref a)] fun _ => none) →
      Cl s₁.heap.objs.size (cellsFrom (s₁.heap.objs.size + 1) d.scope.names []) s.heap (bindC (envOfC d.name d.scope s₁.heap.objs.size fa cd).kindOf [(x, .ref a)] fun _ => none) →
      wpAny (model l.prog w) (callerA.deeper (envOfC d.name d.scope s₁.heap.objs.size fa cd)) (execs d.body (envOfC d.name d.scope s₁.heap.objs.size fa cd))
        (fun f s' => f = .ret (.bool true) ∧ (∀ b o, s₁.heap.get? b = some o → s'.heap.get? b = some o) ∧ s'.os = s₁.os ∧ s'.gens = #[]) (fun _ _ => False) s) :
    WalkN q loose XP YP l.row.toRowW d [] (fun f vs => PySem.call f vs) := by
  intro w s₀ s₁ mg mb G Y fa o pm cd doc dV kV ho hd hcd hD hmg hg args vals as hpre hlay hrd hwl hlo
  obtain rfl : dV = .none := Dflts.none hD hdf
  obtain rfl : kV = .none := Dflts.noKw hD
  obtain ⟨a, vs, ns, rfl, rfl, hobj, hints, hlen⟩ := script_of hn hpre hwl
  refine enter_callW ?_
  refine call_cells_ret (o := o) (by rw [depth_caller]; decide) ho (fd_plain hd) G.T.nolimit hcd (hbind pm cd doc (.ref a)) (fun y hy => ?_) (fun h₁ tk F X => ?_) hco hgen hk
  · obtain rfl : y = (x, Value.ref a) := List.mem_singleton.mp hy
    rcases hx with e | e
    · exact .inl e
    · exact .inr ⟨e, cellsFrom_some _ _ _ (.inl e)⟩
  · refine wpAny_mono (body w s₀ s₁ { s₁ with heap := h₁, toks := tk } mg mb fa o pm cd doc a vs ns G Y ho (fd_plain hd) hcd hmg hobj hints hlen hg rfl F X) (fun f s' hq => ?_) (fun _ _ hq => hq)
    obtain ⟨rfl, h2, h3, h4⟩ := hq
    exact ⟨.inl ⟨.bool true, .bool true, [], rfl, fun _ => rfl, .bool true, post_true l _, fun _ => ⟨List.Pairwise.nil, fun _ hm => (nomatch hm)⟩⟩, h2, h3, h4⟩

/-! ### rules over ANY heap (no ledger) from facts about the written part K: the library's own take a ledger (News) for what they write -/
section
variable {prog : Program} {w : World} {A : Around} {E : Value → Shared → Prop} {s : Shared} {K : Frag}

/-- a def of the module, or a method (qual 'C.m'), entered: the frame is the next address; cells behind it -/
theorem call_fn {R : Result → Shared → Prop} {name qual : Str} {params : Arguments} {body : List Stmt} {scope : Scope} {dV kV doc pm cdv ct oc : Value} {an od : Option Addr} {osl : Array (Option Value)} {f : Addr} {args : Args} {binds : List (Str × Value)}
    (X : K.In s.heap) (hlim : s.heap.NoLimit) (ho : K.lookup f = some ⟨oc, od, .func (fnOf name qual params body scope dV kV doc pm an cdv ct), osl⟩) (hcd : codeIn K cdv qual = true) (hroom : A.depth < recursionLimit)
    (hbind : BindsTo s (fnOf name qual params body scope dV kV doc pm an cdv ct) args binds)
    (hkind : (binds.all fun y => scope.names.lookup y.1 == some .local || scope.names.lookup y.1 == some .cell) = true)
    (h : ∀ s₁, InCallC s s.heap.objs.size (bindL (envOfC qual scope s.heap.objs.size f cdv).kindOf binds fun _ => none) (cellsFrom (s.heap.objs.size + 1) scope.names [])
        (bindC (envOfC qual scope s.heap.objs.size f cdv).kindOf binds fun _ => none) s₁ →
      wpAny (model prog w) (A.deeper (envOfC qual scope s.heap.objs.size f cdv)) (execs body (envOfC qual scope s.heap.objs.size f cdv))
        (fun fl s' => R (.ok (.ret (match fl with | .ret v => v | _ => .none))) s')
        (fun e s' => wpAny (model prog w) (A.deeper (envOfC qual scope s.heap.objs.size f cdv)) (leaving (envOfC qual scope s.heap.objs.size f cdv) e) (fun _ s'' => R (.error e) s'') (fun e' s'' => R (.error e') s'') s') s₁)
    (hco : scope.isCoroutine = false) (hgen : scope.isGenerator = false) (hk : scope.kind = .function) : codeAny (model prog w) A (.call (.ref f) args) R s := by
  refine codeAny_call_function hroom (X _ _ ho) rfl hco hgen rfl (codeRec_of X hcd) (hbind _ _ _ _ ?_)
  refine wpAny_newFunctionEnv_cells hk (kindsX hkind _) fun env he s₁ x => ?_
  subst he
  exact ⟨hlim.keeps x.toInCall.keep, codeAny_func (h s₁ x)⟩

/-- C(..): dict at size, instance at size + 1, then __init__ -/
theorem make_obj {R : Result → Shared → Prop} {C fI : Addr} {rest : List Value} {kw : List (Str × Value)}
    (X : K.In s.heap) (hm : makesIn K C = true) (hi : findIn K (.ref C) "__init__" = some (some (.ref fI))) (hf : isFn K (.ref fI) = true)
    (h : codeAny (model prog w) (A.under (.builtin "type.__call__" ⟨.ref C :: rest, kw⟩)) (.call (.ref fI) ⟨.ref (s.heap.objs.size + 1) :: rest, kw⟩) (InitBack (s.heap.objs.size + 1) R)
      { s with heap := (s.heap.push emptyDict).push (instObj C s.heap.objs.size) }) : codeAny (model prog w) A (.call (.ref C) ⟨rest, kw⟩) R s := by
  obtain ⟨hh, g, d, t, os⟩ := s
  exact make_core (makes_of X hm) (looks_findIn X hi) (fun self => bind_fn X self (beq_iff_eq.mp hf)) (.inl rfl) h

/-- x.name where the instance's dict holds the name and the class does not -/
theorem get_field {x C : Addr} {ox : Obj} {es : List DictEntry} {n : Nat} {name : Str} {expr : Bool} {v : Value} {Q : Value → Shared → Prop}
    (X : K.In s.heap) (I : PySem.W.InstAt s.heap x ox C (some (dictOf es n))) (hg : plainGet K C name = true) (hh : hasDictIn K C = true) (ha : findIn K (.ref C) name = some none)
    (hl : getL name es = some (some v)) (hv : handedIn v = true) (h : Q v { s with toks := s.toks + 1 }) : wpAny (model prog w) A (getAttr (.ref x) name expr) Q E s :=
  get_value X I (plainGet_of hg).1 (findObj_own hh ha rfl hl) hv h

/-- x.m(..): the method found in the class -/
theorem get_method {x C f : Addr} {ox : Obj} {es : List DictEntry} {n : Nat} {name : Str} {pl : Sem Bool} {Q : Value × List Value → Shared → Prop}
    (X : K.In s.heap) (I : PySem.W.InstAt s.heap x ox C (some (dictOf es n))) (hg : plainGet K C name = true) (hf : findIn K (.ref C) name = some (some (.ref f))) (ht : isFn K (.ref f) = true)
    (hl : getL name es = some none) (h : Q (.ref f, [.ref x]) s) : wpAny (model prog w) A (getMethod (.ref x) name pl) Q E s :=
  method_fn X I (plainGet_of hg).1 (plainGet_of hg).2 hf (beq_iff_eq.mp ht) (by show (lookIn name (dictOf es n)).map _ = _; rw [lookIn_dict, hl]; rfl) h

/-! the whole heap as the ledger: makes every rule that writes through a ledger a rule over any heap -/
def noObjs (h : Heap) : Heap := { h with objs := #[] }
theorem noObjs_get (h : Heap) (b : Addr) : (noObjs h).get? b = none := by
  cases e : (noObjs h).get? b with
  | none => rfl
  | some o => exact absurd (Heap.lt_size e) (Nat.not_lt_zero _)
def ledger (h : Heap) (L d : Addr) : List (Addr × Obj) := (List.range h.objs.size).filterMap fun a => if a = L ∨ a = d then none else (h.get? a).map fun o => (a, o)
theorem mem_ledger {h : Heap} {L d a : Addr} {o : Obj} : (a, o) ∈ ledger h L d ↔ a ≠ L ∧ a ≠ d ∧ h.get? a = some o := by
  unfold ledger
  rw [List.mem_filterMap]
  constructor
  · rintro ⟨b, _, e⟩
    split at e
    · cases e
    · rename_i hb
      obtain ⟨o', ho, e'⟩ := Option.map_eq_some_iff.mp e
      cases e'
      exact ⟨fun q => hb (.inl q), fun q => hb (.inr q), ho⟩
  · rintro ⟨n1, n2, ho⟩
    refine ⟨a, List.mem_range.mpr (Heap.lt_size ho), ?_⟩
    rw [if_neg (show ¬ (a = L ∨ a = d) from fun q => q.elim n1 n2), ho] <;> rfl
theorem news_ledger {h : Heap} {L d : Addr} {od : Obj} (hne : d ≠ L) (ho : h.get? d = some od) : News (noObjs h) L h ([] ++ (d, od) :: ledger h L d) := by
  rintro ⟨a, o⟩ hp
  rcases List.mem_cons.mp hp with e | hp
  · cases e
    exact ⟨ho, hne, noObjs_get _ _⟩
  · obtain ⟨n1, n2, e⟩ := mem_ledger.mp hp
    exact ⟨e, n1, noObjs_get _ _⟩
theorem fr_all {h : Heap} {L : Addr} {m : Str → Option Value} (n : h.Ns L m) : Fr (noObjs h) L h m :=
  ⟨n, fun b o e => (by rw [noObjs_get] at e; cases e), Nat.zero_le _⟩
/-- Upd of the head entry (for append_K, setItem_K ..) -/
theorem upd_ledger {h : Heap} {L d : Addr} {o o' : Obj} : Upd d o o' ((d, o) :: ledger h L d) ((d, o') :: ledger h L d) :=
  .head fun ⟨_, _⟩ hp => (mem_ledger.mp hp).2.1

/-- x.name = v over any heap: L is any namespace of the heap (the frame's, say): its map stays, its object is not told; all else but the dict stays -/
theorem set_field {x C dx L : Addr} {ox : Obj} {m : Str → Option Value} {es es' : List DictEntry} {n n' : Nat} {name : Str} {v : Value} {Q : Unit → Shared → Prop}
    (X : K.In s.heap) (I : PySem.W.InstAt s.heap x ox C (some (dictOf es n))) (hd : ox.dict = some dx) (hL : s.heap.Ns L m) (hne : dx ≠ L)
    (hs : findIn K (.ref C) "__setattr__" = some (some (.builtin "object.__setattr__"))) (hp : plainOver K C = true) (ht : takerIn K C name = some none) (hh : hasDictIn K C = true) (hl : (getL name es).isSome = true)
    (e : (putL name (PyData.keyHash w.params name) (.str name (s.toks + 1)) v es, putN name es n) = (es', n')) (hz : es'.length ≤ 1000)
    (h : ∀ h' : Heap, h'.Ns L m → h'.get? dx = some (dictOf es' n') → (∀ b o, b ≠ dx → b ≠ L → s.heap.get? b = some o → h'.get? b = some o) → Q () { s with heap := h', toks := s.toks + 2 }) :
    wpAny (model prog w) A (setAttr (.ref x) name v) Q E s := by
  obtain ⟨e1, e2⟩ := Prod.mk.inj e
  have hdx : s.heap.get? dx = some (dictOf es n) := by
    have := I.dict
    rw [hd] at this
    exact this
  refine set_plain X I hs (osa_dict (s := { s with toks := s.toks + 1 }) (h₀ := noObjs s.heap) (L := L) (m := m) (od := dictOf es n) (od' := dictOf es' n') (es := es') (n := n') (pre := []) (post := ledger s.heap L dx)
    (fr_all hL) (news_ledger hne hdx) X I hd hp ht hh hl (fun _ q => nomatch q) (fun ⟨_, _⟩ q => (mem_ledger.mp q).2.1) (by rw [putName_dict, e1, e2]) rfl hz fun h' F' N' => ?_)
  exact h h' F'.ns (N'.get (List.Mem.head _)) fun b o n1 n2 ho => N'.get (List.Mem.tail _ (mem_ledger.mpr ⟨n2, n1, ho⟩))
end
end Att

namespace L2
open PySem PySem.Spec PyProof.Rows

theorem vals_ints : ∀ {vs : List Value} {ns : List Int}, IntsAre vs ns → Vals (ns.map V.int) vs
  | _, _, .nil => .nil
  | _, _, .cons n t h => .cons ⟨t, rfl⟩ (vals_ints h)

/-- nothing is tracked but the script, known to the object (or it is an object of the module) -/
def Only (H : Hp) : Prop := ∀ b, H b = none ∨ ∃ o xs, H b = some (.frz o (.lst xs))

/-- THE HEAD: the law's promise, at the heap behind the top. F, the promise of the law's def, may use that base is part of the heap (so K.In base, base.Ns mainGlobals mg stand in Mod) -/
theorem law_call {P : Program} {w : World} {K : PySem.W.Frag} {mg mb : Str → Option Value} {CX : CXT} {k : Nat} {fa a : Addr} {fd : FuncData} {x : Str} {sp : Sp} {s₁ : Shared} {vs : List Value} {ns : List Int}
    (KX : K.In s₁.heap) (hns : s₁.heap.Ns mainGlobals mg) (hb : s₁.heap.Ns builtinsNs mb) (hbb : ∀ x : Str, x ≠ "__name__" → mb x = bootBuiltins x) (hlim : s₁.heap.NoLimit) (hg : s₁.gens = #[])
    (ha : s₁.heap.get? a = some { cls := .type "list", data := .seq vs.toArray }) (hi : IntsAre vs ns) (hl : ns.length ≤ sizeLine) (hr : Room k callerA)
    (F : ∀ base : Heap, K.In base → base.Ns mainGlobals mg → FnOk P w K mg base CX k fa fd [x] sp) (hbind : ∀ (s : Shared) (u : Value), BindsTo s fd ⟨[u], []⟩ [(x, u)])
    (hsp : ∀ H : Hp, Only H → SqL K H a (ns.map V.int) → sp [.ref a] H (fun v _ => v = .bl true) fun _ _ _ => False)
    (hCX : ∀ H e s', CX [] H s₁ (fun _ _ _ => False) e s' → False) :
    codeAny (model P w) callerA (.call (.ref fa) ⟨[.ref a], []⟩) (fun r s' => r = .ok (.ret (.bool true)) ∧ OldK s₁.heap s'.heap ∧ s'.os = s₁.os ∧ AllBare s'.gens) s₁ := by
  have rv := vals_ints hi
  have lenV := hi.length
  -- from an abstract heap in which nothing but the script may be tracked
  have core : ∀ H : Hp, Only H → SqL K H a (ns.map V.int) → HOk P w H s₁.heap → (∀ b, H b ≠ none → b = a) → (H a ≠ none → K.lookup a = none) →
      codeAny (model P w) callerA (.call (.ref fa) ⟨[.ref a], []⟩) (fun r s' => r = .ok (.ret (.bool true)) ∧ OldK s₁.heap s'.heap ∧ s'.os = s₁.os ∧ AllBare s'.gens) s₁ := by
    intro H hO hS hok hA hK
    have base_of : ∀ {b : Addr} {o : Obj}, s₁.heap.get? b = some o → H b = none → (hidT s₁.heap H).get? b = some o := fun e n => hidT_get e n
    have noA : ∀ {b : Addr} {o : Obj} {es : Array DictEntry} {ep : Nat}, s₁.heap.get? b = some o → o.data = .dict es ep → H b = none := fun {b o es ep} e d => by
      cases q : H b with
      | none => rfl
      | some u =>
        have e' : b = a := hA b (by rw [q]; simp)
        subst e'
        rw [ha] at e; cases e
        have d' : Data.seq vs.toArray _ = Data.dict es ep := d
        cases d'
    have nsK : ∀ {b : Addr} {m : Str → Option Value}, s₁.heap.Ns b m → (hidT s₁.heap H).Ns b m := fun {b m} ⟨o, es, ep, e, d, r⟩ => ⟨o, es, ep, base_of e (noA e d), d, r⟩
    have hKb : K.In (hidT s₁.heap H) := fun b o e => base_of (KX b o e) (by
      cases q : H b with
      | none => rfl
      | some u =>
        have e' : b = a := hA b (by rw [q]; simp)
        subst e'
        rw [hK (by rw [q]; simp)] at e; cases e)
    have hM : Mod K mg (hidT s₁.heap H) := ⟨hKb, nsK hns, ⟨mb, nsK hb, hbb⟩, let ⟨mc, h1, h2⟩ := hlim; ⟨mc, nsK h1, h2⟩⟩
    have e0 : Env0 P w K mg (hidT s₁.heap H) callerA [] s₁ H := ⟨rfl, hM, fun b o e => of_hidT e, Nat.le_of_eq (hidT_size _ _), trivial, fun b hb => absurd (show b ∈ ([] : List Addr) from hb) (by simp), hok, .of_eq hg⟩
    refine codeAny_mono ((F _ hKb (nsK hns)).run callerA [] s₁ H ⟨[.ref a], []⟩ [.ref a] [.ref a] _ _ hr e0 (hbind s₁ (.ref a)) (.cons rfl .nil) (hsp H hO hS)) fun r s' h => ?_
    cases r with
    | error e => exact (hCX H e s' h).elim
    | ok fl =>
      cases fl with
      | next => exact False.elim h
      | brk => exact False.elim h
      | cont => exact False.elim h
      | ret u =>
        obtain ⟨v, H', os, bare, un, hok', r', q⟩ := h
        have q' : v = .bl true := q
        subst q'
        obtain rfl : u = Value.bool true := r'
        refine ⟨rfl, OldK.of_keep fun b o e => ?_, os, bare⟩
        cases q : H b with
        | none => exact un.keep b o e q (by intro z; exact absurd (show b ∈ ([] : List Addr) from z) (by simp)) (by simp)
        | some u =>
          rcases hO b with z | ⟨ob, xs, z⟩
          · rw [q] at z; cases z
          · have z2 := un.frzs b ob _ z
            obtain ⟨e1, _⟩ := hok b _ z
            obtain ⟨e2, _⟩ := hok' b _ z2
            rw [e] at e1; cases e1
            exact e2
  cases hk : K.lookup a with
  | some o =>
    -- the script is one of the module's own objects
    have e := KX a o hk
    rw [ha] at e
    cases e
    refine core (fun _ => none) (fun _ => .inl rfl) (.inr ⟨_, vs.toArray, _, hk, rfl, rfl, rfl, by rw [List.size_toArray, lenV]; exact hl, by simpa using rv⟩) (fun b u z => by have z' : (none : Option HO) = some u := z; cases z') (fun b z => absurd rfl z) fun z => absurd rfl z
  | none =>
    refine core (fun b => if b = a then some (.frz { cls := .type "list", data := .seq vs.toArray } (.lst (ns.map V.int))) else none) (fun b => ?_) (.inl (.inr ⟨{ cls := .type "list", data := .seq vs.toArray }, if_pos rfl⟩)) (fun b u z => ?_) (fun b z => ?_) fun _ => hk
    · by_cases hb : b = a
      · exact .inr ⟨_, _, if_pos hb⟩
      · exact .inl (if_neg hb)
    · by_cases hb : b = a
      · have z' := (if_pos hb).symm.trans z
        cases z'
        subst hb
        exact ⟨ha, by rw [List.length_map]; exact hl, vs, _, rv, ha⟩
      · have z' := (if_neg hb).symm.trans z
        cases z'
    · by_cases hb : b = a
      · exact hb
      · exact absurd (if_neg hb) z
end L2

namespace L2
open PySem PySem.Spec PyProof.Rows

abbrev KOf {K : PySem.W.Frag} {h : Heap} (_ : K.In h) : PySem.W.Frag := K

/-- the goal that k_head leaves (case hc), from the law's promise. F gives the function object fd (K's own) once, then the promise over every base -/
theorem walk_of {l : PySem.W.OpenLaw} {n k : Nat} {q : Program} {loose : List Str} {XP : (Str → Option Value) → Heap → Prop} {YP : World → Heap → Prop} {d : DefRec} {K : Params → PySem.W.Frag} {CX : World → CXT} {sp : World → Sp} {x : Str}
    (hn : l.most = some n) (hn2 : n ≤ sizeLine) (hdf : d.params.defaults = []) (hr : Room k callerA)
    (hY : ∀ (w : World) (h : Heap), YP w h → (K w.params).In h)
    (F : ∀ (w : World) (mg : Str → Option Value) (fa : Addr) (h : Heap), (K w.params).In h → h.Ns mainGlobals mg → mg d.name = some (.ref fa) →
      ∃ fd : FuncData, (∀ (s : Shared) (u : Value), BindsTo s fd ⟨[u], []⟩ [(x, u)]) ∧
        ∀ base : Heap, (K w.params).In base → base.Ns mainGlobals mg → FnOk l.prog w (K w.params) mg base (CX w) k fa fd [x] (sp w))
    (hsp : ∀ (w : World) (H : Hp) (a : Addr) (ns : List Int), ns.length ≤ n → Only H → SqL (K w.params) H a (ns.map V.int) → sp w [.ref a] H (fun v _ => v = .bl true) fun _ _ _ => False)
    (hCX : ∀ (w : World) (H : Hp) (s : Shared) (e : Value) (s' : Shared), CX w [] H s (fun _ _ _ => False) e s' → False) :
    PySem.W.WalkO q loose XP YP l.row.toRowW d [] (fun f vs => PySem.call f vs) := by
  refine Att.attach_call hn hdf fun w s₀ s₁ mg mb fa o pm cd doc a vs ns G Y ho hd hcd hmg hobj hints hlen hg => ?_
  have KX := hY w _ Y
  obtain ⟨fd, hb, hF⟩ := F w mg fa _ KX G.T.g hmg
  exact law_call KX G.T.g G.T.b G.T.builtins G.T.nolimit hg hobj hints (Nat.le_trans hlen hn2) hr hF hb (fun H hO hS => hsp w H a ns hlen hO hS) fun H e s' => hCX w H s₁ e s'
/-- the same where the promise hangs on the written part alone: (sp := My.sp_law), no hole under a binder -/
theorem walk_ofK {l : PySem.W.OpenLaw} {n k : Nat} {q : Program} {loose : List Str} {XP : (Str → Option Value) → Heap → Prop} {YP : World → Heap → Prop} {d : DefRec} {K : Params → PySem.W.Frag} {CX : CXT} {sp : PySem.W.Frag → Sp} {x : Str}
    (hn : l.most = some n) (hn2 : n ≤ sizeLine) (hdf : d.params.defaults = []) (hr : Room k callerA)
    (hY : ∀ (w : World) (h : Heap), YP w h → (K w.params).In h)
    (F : ∀ (w : World) (mg : Str → Option Value) (fa : Addr) (h : Heap), (K w.params).In h → h.Ns mainGlobals mg → mg d.name = some (.ref fa) →
      ∃ fd : FuncData, (∀ (s : Shared) (u : Value), BindsTo s fd ⟨[u], []⟩ [(x, u)]) ∧
        ∀ base : Heap, (K w.params).In base → base.Ns mainGlobals mg → FnOk l.prog w (K w.params) mg base CX k fa fd [x] (sp (K w.params)))
    (hsp : ∀ (K : PySem.W.Frag) (H : Hp) (a : Addr) (ns : List Int), ns.length ≤ n → Only H → SqL K H a (ns.map V.int) → sp K [.ref a] H (fun v _ => v = .bl true) fun _ _ _ => False)
    (hCX : ∀ (H : Hp) (s : Shared) (e : Value) (s' : Shared), CX [] H s (fun _ _ _ => False) e s' → False) :
    PySem.W.WalkO q loose XP YP l.row.toRowW d [] (fun f vs => PySem.call f vs) :=
  walk_of (K := K) (CX := fun _ => CX) (sp := fun w => sp (K w.params)) hn hn2 hdf hr hY F (fun w H a ns h1 h2 h3 => hsp (K w.params) H a ns h1 h2 h3) fun _ H s e s' => hCX H s e s'
end L2

/- THE LAST THEOREM (shape; LID, My.* are yours):
   My.Adr: a structure of the addresses that your layer names (classes, functions); My.Txt K t: a structure (Prop) of the equations over K;
   My.txt_mk : {K} {implicit addresses ..} (e1 : nsIn K mainGlobals "law" = some (some (.ref f))) (e2 : K.lookup f = some ⟨oc, od, .func (fnOf "law" "law" params body scope dV kV doc pm an cdv ct), sl⟩) (e3 : codeIn K cdv "law" = true) .. : ∃ t, My.Txt K t

set_option maxRecDepth 100000 in
set_option maxHeartbeats 0 in
theorem PySem.Challenge.cw_LID_holds : PySem.Challenge.rw_LID.Holds := by
  w_on; o_law; k_head; (case hw => w_witness2)
  k_fill
  refine L2.walk_of (l := PySem.Challenge.rw_LID) (n := 63) (k := 40) (x := "script") (CX := fun w => ..) (sp := fun _ => My.sp_law) rfl (by decide) rfl ⟨rfl, by decide, by decide⟩ (fun w h Y => PySem.W.kIn_of Y) ?F ?S ?C
  case F =>
    intro w mg fa h KX G hmg
    have T : ∃ t, My.Txt (L2.KOf KX) t := by
      dsimp only [L2.KOf]                          -- K must stand as «<heap const> w.params» for k_is
      refine' My.txt_mk ?e1 ?e2 ?e3 ..
      (case e1 => PySem.W.k_is)                    -- in the order: a name -> its address -> its object -> its parts
      (case e2 => PySem.W.k_is)
      ..
    obtain ⟨t, T⟩ := T
    have e0 := hmg.symm.trans (PySem.W.mg_of KX G T.law)
    cases e0                                       -- fa is the law's own address
    exact ⟨_, fun s u => .of_eq rfl, fun base kb nb => My.law_fn T kb nb⟩     -- if «.of_eq rfl» comes too early: refine' ⟨_, ?b, fun base kb nb => My.law_fn T kb nb⟩; exact fun s u => .of_eq rfl
  case S => exact fun w H a ns hl hO hS => ..
  case C => exact ..
(the tactic k_is has no namespace: write k_is) -/

/-! SHORT WORDS over the layer: a def of the text, its body, what a loop and a test want. -/
namespace L2
open PySem PySem.Spec PyProof.Rows

/-! ### the text by places -/
/-- the j-th statement of a class's body -/
def inClass (s : Stmt) (j : Nat) : Stmt := match s with
  | .ClassDef _ _ _ body _ _ _ _ _ _ _ => body.getD j (.Pass ⟨0, 0, 0, 0⟩)
  | _ => .Pass ⟨0, 0, 0, 0⟩
def defArgs (s : Stmt) : Arguments := match s with
  | .FunctionDef _ a _ _ _ _ _ _ _ _ => a
  | _ => { posonlyargs := [], args := [], vararg := none, kwonlyargs := [], kw_defaults := [], kwarg := none, defaults := [] }
def defBody (s : Stmt) : List Stmt := match s with
  | .FunctionDef _ _ b _ _ _ _ _ _ _ => b
  | _ => []
def defScope (s : Stmt) : Scope := match s with
  | .FunctionDef _ _ _ _ _ _ sc _ _ _ => sc
  | _ => { kind := .function, names := [], isGenerator := false, isCoroutine := false }

/-! ### no exception leaves a def -/
abbrev CX0 : CXT := fun _ _ _ _ _ _ => False
abbrev E0 : XK := fun _ _ _ => False
theorem pass0 {X : Cx} : Passes CX0 X E0 := fun _ _ _ _ _ _ _ h => h.elim

/-! ### a def (or method) of the text as it stands behind the top -/
structure Fun (K : PySem.W.Frag) (x qual : Str) (st : Stmt) (f : Addr) (fd : FuncData) : Prop where
  ex : ∃ (oc : Value) (od : Option Addr) (kV doc pm : Value) (an : Option Addr) (cdv ct : Value) (osl : Array (Option Value)),
    fd = PySem.W.fnOf x qual (defArgs st) (defBody st) (defScope st) .none kV doc pm an cdv ct ∧ K.lookup f = some ⟨oc, od, .func fd, osl⟩ ∧ PySem.W.codeIn K cdv qual = true
  kp : PySem.W.keepIn K (.ref f) = true
section
variable {P : Program} {w : World} {K : PySem.W.Frag} {mg : Str → Option Value} {base : Heap}
/-- THE RULE for a def: its body as a term of rules, and the reading of that term -/
theorem Fun.ok {x qual : Str} {st : Stmt} {f : Addr} {fd : FuncData} {N ps : List Str} {k : Nat} {sp : Sp} (F : Fun K x qual st f fd) (S : FnScope N ps (defScope st)) (len : ∀ vs H Q E, sp vs H Q E → vs.length = ps.length)
    (hbody : ∀ (cdv : Value) (A : Around) (outer : List Env) (s : Shared) (H : Hp) (vs : List V) (Q : VK) (E : XK), Room k (A.deeper (envOfC qual (defScope st) s.heap.objs.size f cdv)) → sp vs H Q E →
      ∃ t, PSs (cxOf CX0 P w K mg base N qual (defScope st) f cdv A outer s H E).nox (defBody st) t ∧ t { nx := fun _ H' => Q .non H', rt := Q } (start N vs) H) : FnOk P w K mg base CX0 (k + 1) f fd ps sp := by
  obtain ⟨oc, od, kV, doc, pm, an, cdv, ct, osl, rfl, lk, hcd⟩ := F.ex
  refine fn_of lk hcd S len fun A outer s H vs Q E hr hsp => ?_
  obtain ⟨t, h, q⟩ := hbody cdv A outer s H vs Q E hr hsp
  exact ⟨t, h.nox, q⟩
/-- how its arguments bind (no defaults): h is «fun _ _ _ _ _ _ us hl => match us, hl with | [_, _], _ => rfl», one _ a parameter -/
theorem Fun.binds {x qual : Str} {st : Stmt} {f : Addr} {fd : FuncData} {ps : List Str} (F : Fun K x qual st f fd)
    (h : ∀ (kV doc pm : Value) (an : Option Addr) (cdv ct : Value) (us : List Value), us.length = ps.length → bindArgs (PySem.W.fnOf x qual (defArgs st) (defBody st) (defScope st) .none kV doc pm an cdv ct) ⟨us, []⟩ = pure (ps.zip us)) : Binds K fd ps [] := by
  obtain ⟨oc, od, kV, doc, pm, an, cdv, ct, osl, rfl, lk, hcd⟩ := F.ex
  exact .all (h kV doc pm an cdv ct)
theorem fun_mk {x qual : Str} {st : Stmt} {f : Addr} {oc : Value} {od an : Option Addr} {osl : Array (Option Value)} {kV doc pm cdv ct : Value} (l : K.lookup f = some ⟨oc, od, .func (PySem.W.fnOf x qual (defArgs st) (defBody st) (defScope st) .none kV doc pm an cdv ct), osl⟩)
    (c : PySem.W.codeIn K cdv qual = true) (k : PySem.W.keepIn K (.ref f) = true) : Fun K x qual st f (PySem.W.fnOf x qual (defArgs st) (defBody st) (defScope st) .none kV doc pm an cdv ct) := ⟨⟨oc, od, kV, doc, pm, an, cdv, ct, osl, rfl, l, c⟩, k⟩
end
theorem hu_of {A : Around} {k : Nat} (hr : Room k A) : A.units + 1 < cLine := Nat.lt_of_le_of_lt (Nat.add_le_add_left (by decide : 1 ≤ 64) _) hr.units
theorem small1000 {n : Nat} (h : n ≤ 1000) : n < sizeLine := Nat.lt_of_le_of_lt h (by decide)

/-! ### expressions in short: the name that stands in the i-th slot -/
section
variable {X : Cx}
theorem pv (i : Nat) {x : Str} {pos : Pos} (hN : X.N[i]? = some x := by rfl) (hv : Vis X.env.scope x := by first | exact Or.inl rfl | exact Or.inr (Or.inl rfl) | exact Or.inr (Or.inr rfl)) (hd : (x == ("__debug__" : Str)) = false := by decide)
    (hcd : (x == ("__classdict__" : Str)) = false := by decide) : PE X (.Name x pos) (tVar i) := pe_var hN hv hd hcd
end

/-! ### tests -/
theorem iteF {A B : Prop} (h : B) : if false = true then A else B := by
  rw [if_neg Bool.false_ne_true]
  exact h
theorem iteT {A B : Prop} (h : A) : if true = true then A else B := by
  rw [if_pos rfl]
  exact h
theorem ite2 {c A B : Prop} [Decidable c] (h1 : c → A) (h2 : ¬ c → B) : if c then A else B := by
  by_cases h : c
  · rw [if_pos h]
    exact h1 h
  · rw [if_neg h]
    exact h2 h
theorem iteNS {c A B : Prop} [Decidable c] (hc : c) (h : B) : if (!decide c) = true then A else B := by
  rw [decide_eq_true hc]
  exact iteF h

/-! ### heaps -/
/-- all that was tracked is as it was -/
def Same (H H' : Hp) : Prop := ∀ b o, H b = some o → H' b = some o
theorem Same.refl (H : Hp) : Same H H := fun _ _ h => h
theorem Same.trans {H H1 H2 : Hp} (a : Same H H1) (b : Same H1 H2) : Same H H2 := fun c o h => b c o (a c o h)
theorem Same.free {H H' : Hp} (e : Same H H') {l : Addr} (h : H' l = Option.none) : H l = Option.none := by
  cases q : H l with
  | none => rfl
  | some o =>
    rw [e l o q] at h
    cases h
theorem Same.seq {K : PySem.W.Frag} {H H' : Hp} {a : Addr} {xs : List V} (e : Same H H') (h : SqL K H a xs) : SqL K H' a xs := by
  rcases h with (h | ⟨o, h⟩) | h
  · exact .inl (.inl (e _ _ h))
  · exact .inl (.inr ⟨o, e _ _ h⟩)
  · exact .inr h

end L2
end
section
set_option Elab.async false
set_option linter.all false
set_option maxRecDepth 100000
namespace L2
open PySem PySem.Spec PyProof.Rows

/-! ### lists of pairs as tables -/
section
variable {κ : Type} [DecidableEq κ]
def valV (kvs : List (κ × V)) (k : κ) : Option V := (kvs.find? fun kv => decide (kv.1 = k)).map (·.2)
/-- in its place, or at the end -/
def putK (kvs : List (κ × V)) (k : κ) (v : V) : List (κ × V) :=
  if (kvs.any fun kv => decide (kv.1 = k)) = true then kvs.map (fun kv => if kv.1 = k then (kv.1, v) else kv) else kvs ++ [(k, v)]
def dropK (kvs : List (κ × V)) (k : κ) : List (κ × V) := kvs.filter fun kv => decide (kv.1 ≠ k)

theorem valV_nil {k : κ} : valV ([] : List (κ × V)) k = none := rfl
theorem valV_pos {p : κ × V} {r : List (κ × V)} {k : κ} (e : p.1 = k) : valV (p :: r) k = some p.2 := by simp [valV, List.find?_cons, e]
theorem valV_neg {p : κ × V} {r : List (κ × V)} {k : κ} (e : ¬ p.1 = k) : valV (p :: r) k = valV r k := by simp [valV, List.find?_cons, e]
theorem valV_any (k : κ) : ∀ kvs : List (κ × V), (kvs.any fun kv => decide (kv.1 = k)) = (valV kvs k).isSome
  | [] => rfl
  | p :: r => by
    rw [List.any_cons]
    by_cases e : p.1 = k
    · simp only [valV_pos e, decide_eq_true e, Bool.true_or, Option.isSome_some]
    · rw [valV_neg e, decide_eq_false e, Bool.false_or]; exact valV_any k r
theorem valV_map (k j : κ) (y : V) : ∀ kvs : List (κ × V), valV (kvs.map fun kv => if kv.1 = k then (kv.1, y) else kv) j = (valV kvs j).map fun x => if j = k then y else x
  | [] => rfl
  | p :: r => by
    have ih := valV_map k j y r
    rw [List.map_cons]
    by_cases h : p.1 = k
    · rw [if_pos h]
      by_cases e : p.1 = j
      · rw [valV_pos (p := (p.1, y)) e, valV_pos e, Option.map_some, if_pos (e.symm.trans h)]
      · rw [valV_neg (p := (p.1, y)) e, valV_neg e, ih]
    · rw [if_neg h]
      by_cases e : p.1 = j
      · rw [valV_pos (p := p) e, valV_pos e, Option.map_some, if_neg (fun z => h (e.trans z))]
      · rw [valV_neg (p := p) e, valV_neg e, ih]
theorem valV_snoc (k j : κ) (y : V) : ∀ kvs : List (κ × V), valV kvs k = none → valV (kvs ++ [(k, y)]) j = if j = k then some y else valV kvs j
  | [], _ => by
    by_cases e : k = j
    · rw [if_pos e.symm]; exact valV_pos (p := (k, y)) e
    · rw [if_neg (fun z => e z.symm)]; exact valV_neg (p := (k, y)) e
  | p :: r, hn => by
    rw [List.cons_append]
    have hk : ¬ p.1 = k := fun z => by rw [valV_pos z] at hn; cases hn
    rw [valV_neg hk] at hn
    have ih := valV_snoc k j y r hn
    by_cases e : p.1 = j
    · rw [valV_pos e, valV_pos e, if_neg (fun z => hk (e.trans z))]
    · rw [valV_neg e, valV_neg e, ih]
theorem valV_put (kvs : List (κ × V)) (k j : κ) (y : V) : valV (putK kvs k y) j = if j = k then some y else valV kvs j := by
  unfold putK
  by_cases a : (kvs.any fun kv => decide (kv.1 = k)) = true
  · rw [if_pos a, valV_map]
    rw [valV_any] at a
    by_cases e : j = k
    · obtain ⟨x, hx⟩ := Option.isSome_iff_exists.mp a
      rw [if_pos e, e, hx, Option.map_some, if_pos rfl]
    · rw [if_neg e]
      cases valV kvs j with
      | none => rfl
      | some x => rw [Option.map_some, if_neg e]
  · rw [if_neg a]
    refine valV_snoc k j y kvs ?_
    rw [valV_any] at a
    cases q : valV kvs k with
    | none => rfl
    | some x => rw [q] at a; exact (a rfl).elim
theorem length_putK (kvs : List (κ × V)) (k : κ) (v : V) : (putK kvs k v).length ≤ kvs.length + 1 := by
  unfold putK
  split
  · rw [List.length_map]; omega
  · rw [List.length_append, List.length_cons, List.length_nil]; omega
theorem putK_new {kvs : List (κ × V)} {k : κ} (v : V) (h : valV kvs k = none) : putK kvs k v = kvs ++ [(k, v)] := by
  unfold putK
  rw [valV_any, h]
  exact if_neg (by decide)

theorem RelO.isSome_eq {o : Option V} {u : Option Value} (r : RelO o u) : o.isSome = u.isSome := by
  cases o with
  | none => cases u with
    | none => rfl
    | some _ => exact (show False from r).elim
  | some _ => cases u with
    | none => exact (show False from r).elim
    | some _ => rfl
theorem RelO.getD {o : Option V} {u : Option Value} {d : V} {d' : Value} (r : RelO o u) (rd : RelV d d') : RelV (o.getD d) (u.getD d') := by
  cases o with
  | none => cases u with
    | none => exact rd
    | some _ => exact (show False from r).elim
  | some _ => cases u with
    | none => exact (show False from r).elim
    | some _ => exact r

/-- raw tables of the same keys -/
theorem KV.val {kvs : List (κ × V)} {vs : List (κ × Value)} (r : KV kvs vs) (k : κ) : RelO (valV kvs k) (valueAt vs k) := by
  unfold KV at r
  induction r with
  | nil => exact True.intro
  | @cons p q ps qs h t ih =>
    obtain ⟨h1, h2⟩ := h
    by_cases e : p.1 = k
    · have e' : q.1 = k := h1.symm.trans e
      have b : valueAt (q :: qs) k = some q.2 := by simp [valueAt, List.find?_cons, e']
      rw [valV_pos e, b]; exact h2
    · have e' : ¬ q.1 = k := fun z => e (h1.trans z)
      have b : valueAt (q :: qs) k = valueAt qs k := by simp [valueAt, List.find?_cons, e']
      rw [valV_neg e, b]; exact ih
theorem KV.any {kvs : List (κ × V)} {vs : List (κ × Value)} (r : KV kvs vs) (k : κ) : (kvs.any fun kv => decide (kv.1 = k)) = vs.any fun kv => decide (kv.1 = k) := by
  unfold KV at r
  induction r with
  | nil => rfl
  | cons h t ih => rw [List.any_cons, List.any_cons, ih, h.1]
theorem KV.repl {kvs : List (κ × V)} {vs : List (κ × Value)} (r : KV kvs vs) (k : κ) {y : V} {u : Value} (ry : RelV y u) :
    KV (kvs.map fun kv => if kv.1 = k then (kv.1, y) else kv) (vs.map fun kv => if kv.1 = k then (kv.1, u) else kv) := by
  unfold KV at r ⊢
  induction r with
  | nil => exact .nil
  | @cons p q ps qs h t ih =>
    rw [List.map_cons, List.map_cons]
    refine .cons ?_ ih
    obtain ⟨h1, h2⟩ := h
    by_cases e : p.1 = k
    · rw [if_pos e, if_pos (h1.symm.trans e)]; exact ⟨h1, ry⟩
    · rw [if_neg e, if_neg (fun z => e (h1.trans z))]; exact ⟨h1, h2⟩
theorem KV.put {kvs : List (κ × V)} {vs : List (κ × Value)} (r : KV kvs vs) (k : κ) {y : V} {u : Value} (ry : RelV y u) : KV (putK kvs k y) (stored vs k u) := by
  unfold putK stored
  rw [r.any k]
  by_cases e : (vs.any fun kv => decide (kv.1 = k)) = true
  · rw [if_pos e, if_pos e]; exact r.repl k ry
  · rw [if_neg e, if_neg e]; exact Paired.snoc r ⟨rfl, ry⟩
theorem KV.drop {kvs : List (κ × V)} {vs : List (κ × Value)} (r : KV kvs vs) (k : κ) : KV (dropK kvs k) (without vs k) := by
  unfold KV at r ⊢
  unfold dropK without
  induction r with
  | nil => exact .nil
  | @cons p q ps qs h t ih =>
    obtain ⟨h1, h2⟩ := h
    rw [List.filter_cons, List.filter_cons]
    by_cases e : p.1 = k
    · have a : ¬ decide (p.1 ≠ k) = true := by simp [e]
      have b : ¬ decide (q.1 ≠ k) = true := by simp [h1.symm.trans e]
      rw [if_neg a, if_neg b]; exact ih
    · have e' : ¬ q.1 = k := fun z => e (h1.trans z)
      have a : decide (p.1 ≠ k) = true := by simp [e]
      have b : decide (q.1 ≠ k) = true := by simp [e']
      rw [if_pos a, if_pos b]; exact .cons ⟨h1, h2⟩ ih
theorem KV.keys {kvs : List (κ × V)} {vs : List (κ × Value)} (r : KV kvs vs) : kvs.map (·.1) = vs.map (·.1) := by
  unfold KV at r
  induction r with
  | nil => rfl
  | cons h t ih => rw [List.map_cons, List.map_cons, ih, h.1]
theorem KV.length {kvs : List (κ × V)} {vs : List (κ × Value)} (r : KV kvs vs) : kvs.length = vs.length := Paired.length r
theorem dropK_le (kvs : List (κ × V)) (k : κ) : (dropK kvs k).length ≤ kvs.length := List.length_filter_le _ _
end


/-! ### a tracked dict, its keys ints and texts or tuples of these -/
theorem kV_is {P : Program} {w : World} {k : Key} {u : Value} (r : RelV (kV k) u) : (mixKind P w).is k u = true := by
  cases k with
  | inl i => obtain ⟨t, e⟩ := (show ∃ t, u = Value.int i t from r); subst e; exact mixKind_int P w i t
  | inr x => obtain ⟨t, e⟩ := (show ∃ t, u = Value.str x t from r); subst e; exact mixKind_str P w x t
theorem kV_inj {a b : Key} (e : kV a = kV b) : a = b := by
  cases a with
  | inl i => cases b with
    | inl j => have e' : V.int i = V.int j := e; injection e' with e'; rw [e']
    | inr y => exact nomatch (show V.int i = V.str y from e)
  | inr x => cases b with
    | inl j => exact nomatch (show V.str x = V.int j from e)
    | inr y => have e' : V.str x = V.str y := e; injection e' with e'; rw [e']
theorem kVs_inj : ∀ {a b : List Key}, a.map kV = b.map kV → a = b
  | [], [], _ => rfl
  | [], _ :: _, e => by simp at e
  | _ :: _, [], e => by simp at e
  | x :: xs, y :: ys, e => by
    rw [List.map_cons, List.map_cons] at e
    injection e with e1 e2
    rw [kV_inj e1, kVs_inj e2]
theorem items_are {P : Program} {w : World} : ∀ {ks : List Key} {us : List Value}, Vals (ks.map kV) us → ItemsAre (mixKind P w) ks us
  | [], _, r => by rw [List.map_nil] at r; cases r; exact .nil
  | k :: ks, _, r => by
    rw [List.map_cons] at r
    cases r with
    | cons h t => exact .cons (kV_is h) (items_are t)

/-- raw entries of a dict with tuple keys -/
abbrev KT (H : Hp) : List (List Key × V) → List (List Key × Addr × Value) → Prop := Paired fun p q => p.1 = q.1 ∧ H q.2.1 = some (.tup (p.1.map kV)) ∧ RelV p.2 q.2.2
theorem KT.val {H : Hp} {kvs : List (List Key × V)} {xs : List (List Key × Addr × Value)} (r : KT H kvs xs) (k : List Key) : RelO (valV kvs k) ((atKey xs k).map (·.2)) := by
  induction r with
  | nil => exact True.intro
  | @cons p q ps qs h t ih =>
    obtain ⟨h1, _, h2⟩ := h
    by_cases e : p.1 = k
    · have e' : q.1 = k := h1.symm.trans e
      have b : atKey (q :: qs) k = some q.2 := by simp [atKey, List.find?_cons, e']
      rw [valV_pos e, b]; exact h2
    · have e' : ¬ q.1 = k := fun z => e (h1.trans z)
      have b : atKey (q :: qs) k = atKey qs k := by simp [atKey, List.find?_cons, e']
      rw [valV_neg e, b]; exact ih
theorem KT.repl {H : Hp} {kvs : List (List Key × V)} {xs : List (List Key × Addr × Value)} (r : KT H kvs xs) (k : List Key) {y : V} {u : Value} (ry : RelV y u) :
    KT H (kvs.map fun kv => if kv.1 = k then (kv.1, y) else kv) (xs.map (putAt k u)) := by
  induction r with
  | nil => exact .nil
  | @cons p q ps qs h t ih =>
    rw [List.map_cons, List.map_cons]
    refine .cons ?_ ih
    obtain ⟨h1, h2, h3⟩ := h
    unfold putAt
    by_cases e : p.1 = k
    · rw [if_pos e, if_pos (h1.symm.trans e)]; exact ⟨h1, h2, ry⟩
    · rw [if_neg e, if_neg (fun z => e (h1.trans z))]; exact ⟨h1, h2, h3⟩
theorem KT.put {H : Hp} {kvs : List (List Key × V)} {xs : List (List Key × Addr × Value)} (r : KT H kvs xs) (k : List Key) {b : Addr} {y : V} {u : Value} (hb : H b = some (.tup (k.map kV))) (ry : RelV y u) :
    KT H (putK kvs k y) (storedH xs k b u) := by
  have e : (kvs.any fun kv => decide (kv.1 = k)) = (atKey xs k).isSome := by
    rw [valV_any, (r.val k).isSome_eq, Option.isSome_map]
  unfold putK storedH
  rw [e]
  by_cases q : (atKey xs k).isSome = true
  · rw [if_pos q, if_pos q]; exact r.repl k ry
  · rw [if_neg q, if_neg q]; exact Paired.snoc r ⟨rfl, hb, ry⟩
theorem KT.keeps {H H' : Hp} {kvs : List (List Key × V)} {xs : List (List Key × Addr × Value)} (r : KT H kvs xs) (ht : ∀ b ys, H b = some (.tup ys) → H' b = some (.tup ys)) : KT H' kvs xs :=
  Paired.mapP r fun _ _ z => ⟨z.1, ht _ _ z.2.1, z.2.2⟩

section
variable {P : Program} {w : World} {H : Hp} {h : Heap} {a : Addr}
theorem rd_of {u : HO} (ok : HOk P w H h) (e : Rd H a u) : ObjOk P w H h a u := e.ok ok
theorem dk_rd {kvs : List (Key × V)} (ok : HOk P w H h) (e : Rd H a (.dK kvs)) : kvs.length ≤ sizeLine ∧ (a == sysModules) = false ∧ ∃ vs, KV kvs vs ∧ h.DictOf (mixKind P w) a vs :=
  show ObjOk P w H h a (.dK kvs) from rd_of ok e
theorem dk_of {kvs : List (Key × V)} (ok : HOk P w H h) (e : H a = some (.dK kvs)) : kvs.length ≤ sizeLine ∧ (a == sysModules) = false ∧ ∃ vs, KV kvs vs ∧ h.DictOf (mixKind P w) a vs := dk_rd ok (.inl e)
/-- a tracked tuple of ints and texts is a key -/
theorem key_of {ks : List Key} (ok : HOk P w H h) (e : H a = some (.tup (ks.map kV))) : (tupleKind (mixKind P w)).is h ks a := by
  obtain ⟨_, its, r, o, h1, h2, n, h3⟩ := (show ObjOk P w H h a (.tup (ks.map kV)) from ok a _ e)
  exact ⟨o, its.toArray, n, h1, h2, h3, by simpa using items_are r⟩
theorem dt_rd {kvs : List (List Key × V)} (ok : HOk P w H h) (e : Rd H a (.dT kvs)) : kvs.length ≤ sizeLine ∧ (a == sysModules) = false ∧
    ∃ xs, KT H kvs xs ∧ h.DictOfH (tupleKind (mixKind P w)) a xs := by
  obtain ⟨z, y, xs, r, o, es, ep, h1, h2, h3, h4, h5⟩ := (show ObjOk P w H h a (.dT kvs) from rd_of ok e)
  refine ⟨z, y, xs, r, o, es, ep, h1, h2, h3, h4, fun x hx => ?_, h5⟩
  have all : ∀ {l : List (List Key × V)} {m : List (List Key × Addr × Value)}, KT H l m → ∀ x ∈ m, (tupleKind (mixKind P w)).is h x.1 x.2.1 := by
    intro l m q
    induction q with
    | nil => intro x hx; exact nomatch hx
    | @cons p q ps qs hq t ih =>
      intro x hx
      rcases List.mem_cons.mp hx with e | hx
      · subst e
        exact key_of ok (by rw [← hq.1]; exact hq.2.1)
      · exact ih x hx
  exact all r x hx
theorem dt_of {kvs : List (List Key × V)} (ok : HOk P w H h) (e : H a = some (.dT kvs)) : kvs.length ≤ sizeLine ∧ (a == sysModules) = false ∧
    ∃ xs, KT H kvs xs ∧ h.DictOfH (tupleKind (mixKind P w)) a xs := dt_rd ok (.inl e)
end

/-- what the dict at a holds at the key y -/
def DGet (H : Hp) (a : Addr) (y : V) (r : Option V) : Prop :=
  (∃ kvs k, Rd H a (.dK kvs) ∧ y = kV k ∧ r = valV kvs k) ∨ ∃ kvs k b, Rd H a (.dT kvs) ∧ y = .ref b ∧ H b = some (.tup (k.map kV)) ∧ r = valV kvs k
/-- the heap behind a[y] = v -/
def DPut (H : Hp) (a : Addr) (y v : V) (H' : Hp) : Prop :=
  (∃ kvs k, H a = some (.dK kvs) ∧ y = kV k ∧ kvs.length < sizeLine ∧ H' = upd H a (.dK (putK kvs k v))) ∨
  ∃ kvs k b, H a = some (.dT kvs) ∧ y = .ref b ∧ H b = some (.tup (k.map kV)) ∧ kvs.length < sizeLine ∧ H' = upd H a (.dT (putK kvs k v))
theorem DGet.k {H : Hp} {a : Addr} {kvs : List (Key × V)} {k : Key} (e : H a = some (.dK kvs)) : DGet H a (kV k) (valV kvs k) := .inl ⟨kvs, k, .inl e, rfl, rfl⟩
theorem DGet.t {H : Hp} {a b : Addr} {kvs : List (List Key × V)} {k : List Key} (e : H a = some (.dT kvs)) (eb : H b = some (.tup (k.map kV))) : DGet H a (.ref b) (valV kvs k) := .inr ⟨kvs, k, b, .inl e, rfl, eb, rfl⟩
theorem DPut.k {H : Hp} {a : Addr} {kvs : List (Key × V)} {k : Key} {v : V} (e : H a = some (.dK kvs)) (hl : kvs.length < sizeLine) : DPut H a (kV k) v (upd H a (.dK (putK kvs k v))) := .inl ⟨kvs, k, e, rfl, hl, rfl⟩
theorem DPut.t {H : Hp} {a b : Addr} {kvs : List (List Key × V)} {k : List Key} {v : V} (e : H a = some (.dT kvs)) (eb : H b = some (.tup (k.map kV))) (hl : kvs.length < sizeLine) :
    DPut H a (.ref b) v (upd H a (.dT (putK kvs k v))) := .inr ⟨kvs, k, b, e, rfl, eb, hl, rfl⟩


section
variable {X : Cx} {pins : List (Addr × Obj)} {σ : St} {H : Hp} {s : Shared} {a : Addr} {y v : V} {u r : Value} {o : Option V} {A : Around} {E : Value → Shared → Prop}

theorem Inv.big (I : Inv X pins σ H s) : sysModules < s.heap.objs.size := by
  have h : mainGlobals < s.heap.objs.size := (I.mod.glob.keeps I.bk).lt
  exact Nat.lt_trans (by decide) h

/-- d[y], there -/
theorem d_getItem {Q : Value → Shared → Prop} (hu : A.units + 1 < cLine) (I : Inv X pins σ H s) (g : DGet H a y (some v)) (ry : RelV y u) (h : ∀ w' s', Inv X pins σ H s' → RelV v w' → Q w' s') :
    wpAny (model X.prog X.w) A (getItem (.ref a) u) Q E s := by
  rcases g with ⟨kvs, k, e, ey, l⟩ | ⟨kvs, k, b, e, ey, eb, l⟩
  · subst ey
    obtain ⟨z, hd, vs, rel, dd⟩ := dk_rd I.hok e
    obtain ⟨w', hw, rw'⟩ := RelO.some_of (v := v) (o := valueAt vs k) (by rw [l]; exact rel.val k)
    exact wpAny_getItem_of (kV_is ry) dd.mapOf hw (h w' _ (I.tok _) rw')
  · subst ey
    cases (show u = Value.ref b from ry)
    obtain ⟨z, hd, xs, rel, dd⟩ := dt_rd I.hok e
    obtain ⟨w', hw, rw'⟩ := RelO.some_of (v := v) (o := (atKey xs k).map (·.2)) (by rw [l]; exact rel.val k)
    obtain ⟨p, hp, hp2⟩ := Option.map_eq_some_iff.mp hw
    refine wpAny_getItem_heap (tupleKind_room_in1 hu) (key_of I.hok eb) dd hp ?_
    rw [hp2]
    exact h w' _ (I.tok _) rw'
/-- y in d -/
theorem d_in {Q : Value → Shared → Prop} (hu : A.units + 1 < cLine) (I : Inv X pins σ H s) (g : DGet H a y o) (ry : RelV y u) (h : ∀ s', Inv X pins σ H s' → Q (.bool o.isSome) s') :
    wpAny (model X.prog X.w) A (compareOp .In u (.ref a)) Q E s := by
  rcases g with ⟨kvs, k, e, ey, l⟩ | ⟨kvs, k, b, e, ey, eb, l⟩
  · subst ey
    obtain ⟨z, hd, vs, rel, dd⟩ := dk_rd I.hok e
    refine wpAny_in_of (kV_is ry) hd dd.mapOf ?_
    rw [← (rel.val k).isSome_eq, ← l]
    exact h _ (I.tok _)
  · subst ey
    cases (show u = Value.ref b from ry)
    obtain ⟨z, hd, xs, rel, dd⟩ := dt_rd I.hok e
    refine wpAny_in_heap (tupleKind_room_in1 hu) (key_of I.hok eb) hd dd ?_
    have q := (rel.val k).isSome_eq
    rw [Option.isSome_map] at q
    rw [← q, ← l]
    exact h _ (I.tok _)
theorem d_notIn {Q : Value → Shared → Prop} (hu : A.units + 1 < cLine) (I : Inv X pins σ H s) (g : DGet H a y o) (ry : RelV y u) (h : ∀ s', Inv X pins σ H s' → Q (.bool (!o.isSome)) s') :
    wpAny (model X.prog X.w) A (compareOp .NotIn u (.ref a)) Q E s := by
  rcases g with ⟨kvs, k, e, ey, l⟩ | ⟨kvs, k, b, e, ey, eb, l⟩
  · subst ey
    obtain ⟨z, hd, vs, rel, dd⟩ := dk_rd I.hok e
    refine wpAny_notIn_of (kV_is ry) hd dd.mapOf ?_
    rw [← (rel.val k).isSome_eq, ← l]
    exact h _ (I.tok _)
  · subst ey
    cases (show u = Value.ref b from ry)
    obtain ⟨z, hd, xs, rel, dd⟩ := dt_rd I.hok e
    refine wpAny_notIn_heap (tupleKind_room_in1 hu) (key_of I.hok eb) hd dd ?_
    have q := (rel.val k).isSome_eq
    rw [Option.isSome_map] at q
    rw [← q, ← l]
    exact h _ (I.tok _)
/-- a dict's object is replaced -/
theorem d_write {h' : Heap} {t' : Nat} {ob : HO} (I : Inv X pins σ H s) (mu : Mut (H a)) (hs : Heap.SameBut a s.heap h') (he : ∃ q, h'.get? a = some q) (new : ObjOk X.prog X.w (upd H a ob) h' a ob) :
    Inv X pins σ (upd H a ob) { s with heap := h', toks := t' } :=
  I.write (x := a) (e := a) mu (.inl rfl) (fun b q hb z => (hs.2 b hb).trans z) he new
theorem dk_new {P : Program} {w : World} {H' : Hp} {h' : Heap} {kvs : List (Key × V)} {vs : List (Key × Value)} (z : kvs.length ≤ sizeLine) (hd : (a == sysModules) = false) (rel : KV kvs vs) (dd : h'.DictOf (mixKind P w) a vs) :
    ObjOk P w H' h' a (.dK kvs) := ⟨z, hd, vs, rel, dd⟩
/-- d[y] = v -/
theorem d_setItem {H' : Hp} {Q : Unit → Shared → Prop} (hu : A.units + 1 < cLine) (I : Inv X pins σ H s) (g : DPut H a y v H') (ry : RelV y u) (rv : RelV v r) (h : ∀ s', Inv X pins σ H' s' → Q () s') :
    wpAny (model X.prog X.w) A (setItem (.ref a) u r) Q E s := by
  rcases g with ⟨kvs, k, e, ey, l, eH⟩ | ⟨kvs, k, b, e, ey, eb, l, eH⟩
  · subst ey eH
    obtain ⟨z, hd, vs, rel, dd⟩ := dk_of I.hok e
    have hz : vs.length ≤ sizeLine := by rw [← rel.length]; exact z
    have hl : (putK kvs k v).length ≤ sizeLine := by have := length_putK kvs k v; omega
    refine wpAny_setItem_pairs (hsz := hz) (kV_is ry) dd fun h' dd' hs => h _ ?_
    have he : ∃ q, h'.get? a = some q := let ⟨q, _, _, hq, _⟩ := dd'; ⟨q, hq⟩
    exact d_write I (by rw [e]; exact True.intro) hs he (dk_new hl hd (rel.put k rv) dd')
  · subst ey eH
    cases (show u = Value.ref b from ry)
    obtain ⟨z, hd, xs, rel, dd⟩ := dt_of I.hok e
    have hz : xs.length ≤ sizeLine := by rw [← Paired.length rel]; exact z
    have hl : (putK kvs k v).length ≤ sizeLine := by have := length_putK kvs k v; omega
    refine wpAny_setItem_heap (hsz := hz) (tupleKind_room_in1 hu) (key_of I.hok eb) dd fun h' dd' hs => h _ ?_
    obtain ⟨q, es, ep, hq, h2, h3, h4, _, h5⟩ := dd'
    refine d_write I (by rw [e]; exact True.intro) hs ⟨q, hq⟩ ⟨hl, hd, _, (rel.put k eb rv).keeps fun c ys ec => ?_, q, es, ep, hq, h2, h3, h4, h5⟩
    rw [upd_ne (ne_of ec e (fun z => nomatch z))]
    exact ec
end

section
variable {X : Cx} {pins : List (Addr × Obj)} {σ : St} {H : Hp} {s : Shared} {a : Addr} {kvs : List (Key × V)} {k : Key} {u : Value} {A : Around} {E : Value → Shared → Prop}
/-- del d[k] -/
theorem d_delItem {Q : Unit → Shared → Prop} (I : Inv X pins σ H s) (e : H a = some (.dK kvs)) (ry : RelV (kV k) u) (l : (valV kvs k).isSome = true) (h : ∀ s', Inv X pins σ (upd H a (.dK (dropK kvs k))) s' → Q () s') :
    wpAny (model X.prog X.w) A (delItem (.ref a) u) Q E s := by
  obtain ⟨z, hd, vs, rel, dd⟩ := dk_of I.hok e
  refine wpAny_delItem_slot dd.typeIs (by decide) PySem.F.slot_dict_delitem
    (call_meetsIn PySem.F.slot_dict_delitem dd.typeIs PySem.F.entry_dict_delitem (PySem.F.args_dict_delitem_2 _ _) (meets_dict_delitem_pairs (mixKind X.prog X.w) a (kV_is ry)) ⟨vs, dd, by rw [← rel.length]; exact z, by rw [← (rel.val k).isSome_eq]; exact l, fun h' dd' hs => h _ ?_⟩)
  have he : ∃ q, h'.get? a = some q := let ⟨q, _, _, hq, _⟩ := dd'; ⟨q, hq⟩
  exact d_write I (by rw [e]; exact True.intro) hs he (dk_new (Nat.le_trans (dropK_le kvs k) z) hd (rel.drop k) dd')
/-- d.pop(k[, x]), there -/
theorem d_pop {v : V} {more : List Value} {Q : Value → Shared → Prop} (I : Inv X pins σ H s) (e : H a = some (.dK kvs)) (ry : RelV (kV k) u) (l : valV kvs k = some v) (hm : more = [] ∨ ∃ x, more = [x])
    (h : ∀ w' s', Inv X pins σ (upd H a (.dK (dropK kvs k))) s' → RelV v w' → Q w' s') : wpAny (model X.prog X.w) A (call (.builtin "dict.pop") (.ref a :: u :: more)) Q E s := by
  obtain ⟨z, hd, vs, rel, dd⟩ := dk_of I.hok e
  obtain ⟨w', hw, rw'⟩ := RelO.some_of (v := v) (o := valueAt vs k) (by rw [← l]; exact rel.val k)
  have hp : (keyPart u).isSome = true := by
    cases k with
    | inl i => obtain ⟨t, q⟩ := (show ∃ t, u = Value.int i t from ry); subst q; rfl
    | inr x => obtain ⟨t, q⟩ := (show ∃ t, u = Value.str x t from ry); subst q; rfl
  have ha : argsOk "dict.pop" ⟨.ref a :: u :: more, []⟩ := by
    rcases hm with q | ⟨x, q⟩
    · subst q; exact PySem.F.args_dict_pop_2 _ _
    · subst q; exact PySem.F.args_dict_pop_3 _ _ _
  refine call_meetsIn PySem.F.slot_dict_pop dd.typeIs PySem.F.entry_dict_pop ha (meets_dict_pop_there (mixKind X.prog X.w) a (kV_is ry) more hm hp)
    ⟨vs, w', dd, by rw [← rel.length]; exact z, hw, fun h' dd' hs => h w' _ ?_ rw'⟩
  have he : ∃ q, h'.get? a = some q := let ⟨q, _, _, hq, _⟩ := dd'; ⟨q, hq⟩
  exact d_write I (by rw [e]; exact True.intro) hs he (dk_new (Nat.le_trans (dropK_le kvs k) z) hd (rel.drop k) dd')
/-- d.pop(k, x), not there -/
theorem d_popD {r : Value} {Q : Value → Shared → Prop} (I : Inv X pins σ H s) (e : H a = some (.dK kvs)) (ry : RelV (kV k) u) (l : valV kvs k = none) (h : ∀ s', Inv X pins σ H s' → Q r s') :
    wpAny (model X.prog X.w) A (call (.builtin "dict.pop") [.ref a, u, r]) Q E s := by
  obtain ⟨z, hd, vs, rel, dd⟩ := dk_of I.hok e
  have hn : valueAt vs k = none := RelO.none_of (by rw [← l]; exact rel.val k)
  have hp : (keyPart u).isSome = true := by
    cases k with
    | inl i => obtain ⟨t, q⟩ := (show ∃ t, u = Value.int i t from ry); subst q; rfl
    | inr x => obtain ⟨t, q⟩ := (show ∃ t, u = Value.str x t from ry); subst q; rfl
  exact call_meetsIn PySem.F.slot_dict_pop dd.typeIs PySem.F.entry_dict_pop (PySem.F.args_dict_pop_3 _ _ _) (meets_dict_pop_default (mixKind X.prog X.w) a (kV_is ry) hd hp r) ⟨vs, dd, hn, h _ (I.tok _)⟩
/-- d.clear() -/
theorem d_clear {Q : Value → Shared → Prop} (I : Inv X pins σ H s) (e : H a = some (.dK kvs)) (h : ∀ s', Inv X pins σ (upd H a (.dK [])) s' → Q .none s') : wpAny (model X.prog X.w) A (call (.builtin "dict.clear") [.ref a]) Q E s := by
  obtain ⟨z, hd, vs, rel, dd⟩ := dk_of I.hok e
  refine call_meetsIn PySem.F.slot_dict_clear dd.typeIs PySem.F.entry_dict_clear (PySem.F.args_dict_clear_1 _) (meets_dict_clear (mixKind X.prog X.w) a) ⟨vs, dd, by rw [← rel.length]; exact z, fun h' dd' hs => h _ ?_⟩
  have he : ∃ q, h'.get? a = some q := let ⟨q, _, _, hq, _⟩ := dd'; ⟨q, hq⟩
  exact d_write (t' := s.toks) I (by rw [e]; exact True.intro) hs he (dk_new (Nat.zero_le _) hd .nil dd')
/-- len(d) -/
theorem d_len {Q : Value → Shared → Prop} (I : Inv X pins σ H s) (e : Rd H a (.dK kvs)) (h : ∀ t s', Inv X pins σ H s' → Q (.int kvs.length t) s') : wpAny (model X.prog X.w) A (call (.builtin "len") [.ref a]) Q E s := by
  obtain ⟨z, hd, vs, rel, dd⟩ := dk_rd I.hok e
  refine call_len_dict hd dd (by rw [← rel.length]; rw [sizeLine_eq] at z; omega) ?_
  rw [← rel.length]
  exact h _ _ (I.tok _)
/-- if d -/
theorem d_truth {Q : Bool → Shared → Prop} (I : Inv X pins σ H s) (e : Rd H a (.dK kvs)) (h : ∀ s', Inv X pins σ H s' → Q (!kvs.isEmpty) s') : wpAny (model X.prog X.w) A (truthy (.ref a)) Q E s := by
  obtain ⟨z, hd, vs, rel, dd⟩ := dk_rd I.hok e
  refine wpAny_truthy_dict hd dd (by rw [← rel.length]; rw [sizeLine_eq] at z; omega) ?_
  have q : kvs.isEmpty = vs.isEmpty := by cases rel <;> rfl
  rw [← q]
  exact h _ (I.tok _)
end


/-! ### readings and rules -/
/-- the element of a subscription, not a slice -/
def NoSl (i : Expr) : Prop := ∀ ov iv, subscripted i false ov iv = operate [ov, iv] (getItem ov iv)
theorem subD_of {prog : Program} {w : World} {A : Around} {E : Value → Shared → Prop} {s : Shared} {env : Env} {value slice : Expr} {pos : Pos} {T id : String} {Q : Value → Shared → Prop}
    (hl : typeLookup (.type T) "__getitem__" = pure (some (.builtin id))) (hs : NoSl slice)
    (h : wpAny (model prog w) A (eval value env) (fun o s₁ => wpAny (model prog w) A (eval slice env) (fun i s₂ => s₂.TypeIs o T ∧ wpAny (model prog w) A (getItem o i) Q E s₂) E s₁) E s) :
    wpAny (model prog w) A (eval (.Subscript value slice pos) env) Q E s := by
  refine Subscript_ (wpAny_mono h (fun o s₁ h₁ => wpAny_mono h₁ (fun i s₂ h₂ => ?_) fun _ _ x => x) fun _ _ x => x)
  obtain ⟨hT, h₂⟩ := h₂
  unfold subscriptTail
  refine wpAny_bind ?_
  rw [getitemInPython_of_ne hT.not_modules]
  refine wpAny_bind (wpAny_specialOf hT hl ?_)
  have fin : wpAny (model prog w) A (subscripted slice false o i) (fun r s₃ => wpAny (model prog w) A (letTemporaryGo value o r >>= fun _ => pure r) Q E s₃) E s₂ := by
    rw [hs o i]
    exact wpAny_operating (wpAny_mono h₂ (fun r s₃ h₃ => wpAny_bind (wpAny_letTemporaryGo (wpAny_pure h₃))) fun _ _ x => x)
  first
    | exact wpAny_pure (wpAny_bind fin)
    | exact wpAny_bind (wpAny_pure (wpAny_bind fin))
    | exact wpAny_bind fin

theorem dict_typeIs {X : Cx} {pins : List (Addr × Obj)} {σ : St} {H : Hp} {s : Shared} {a : Addr} {y : V} {o : Option V} (I : Inv X pins σ H s) (g : DGet H a y o) : s.TypeIs (.ref a) "dict" := by
  rcases g with ⟨kvs, k, e, _, _⟩ | ⟨kvs, k, b, e, _, _, _⟩
  · obtain ⟨_, _, vs, _, dd⟩ := dk_rd I.hok e
    exact dd.typeIs
  · obtain ⟨_, _, xs, _, dd⟩ := dt_rd I.hok e
    exact dd.typeIs
theorem dict_noDict {X : Cx} {pins : List (Addr × Obj)} {σ : St} {H : Hp} {s : Shared} {a : Addr} {y : V} {o : Option V} (I : Inv X pins σ H s) (g : DGet H a y o) :
    ∀ b, Value.ref a = .ref b → ∃ ob, s.heap.get? b = some ob ∧ ob.dict = none := fun b q => by
  cases q
  rcases g with ⟨kvs, k, e, _, _⟩ | ⟨kvs, k, b, e, _, _, _⟩
  · obtain ⟨_, _, vs, _, ob, _, _, h1, h2, _⟩ := dk_rd I.hok e
    exact ⟨ob, h1, h2.2.1⟩
  · obtain ⟨_, _, xs, _, ob, _, _, h1, h2, _⟩ := dt_rd I.hok e
    exact ⟨ob, h1, h2.2.1⟩

/-- d[y] -/
def tDGet (td ty : TE) : TE := fun σ H Q => td σ H fun x H1 => ty σ H1 fun y H2 => ∃ a v, x = .ref a ∧ DGet H2 a y (some v) ∧ Q v H2
/-- y in d, y not in d -/
def tDIn (ty td : TE) : TE := fun σ H Q => ty σ H fun y H1 => td σ H1 fun x H2 => ∃ a o, x = .ref a ∧ DGet H2 a y o ∧ Q (.bl o.isSome) H2
def tDNotIn (ty td : TE) : TE := fun σ H Q => ty σ H fun y H1 => td σ H1 fun x H2 => ∃ a o, x = .ref a ∧ DGet H2 a y o ∧ Q (.bl (!o.isSome)) H2
/-- d[y] = v -/
def sDPut (td ty tv : TE) : TS := fun D σ H => tv σ H fun v H1 => td σ H1 fun x H2 => ty σ H2 fun y H3 => ∃ a H4, x = .ref a ∧ DPut H3 a y v H4 ∧ D.nx σ H4
/-- d[y] op= v -/
def sDAug (td ty tv : TE) (rd : V → V → Hp → VK → Prop) : TS := fun D σ H => td σ H fun x H1 => ty σ H1 fun y H2 => ∃ a v, x = .ref a ∧ DGet H2 a y (some v) ∧
  tv σ H2 fun y2 H3 => rd v y2 H3 fun z H4 => ∃ H5, DPut H4 a y z H5 ∧ D.nx σ H5
/-- del d[y] -/
def sDDel (td ty : TE) : TS := fun D σ H => td σ H fun x H1 => ty σ H1 fun y H2 => ∃ a kvs k, x = .ref a ∧ H2 a = some (.dK kvs) ∧ y = kV k ∧ (valV kvs k).isSome = true ∧ D.nx σ (upd H2 a (.dK (dropK kvs k)))

section
variable {X : Cx} {o i e value : Expr} {pos pos' tpos : Pos} {td ty tv : TE}
theorem pe_dget (hu : X.A.units + 1 < cLine) (ho : PE X o td) (hi : PE X i ty) (hs : NoSl i) : PE X (.Subscript o i pos) (tDGet td ty) := by
  intro pins s σ H Q I h
  refine subD_of PySem.F.slot_dict_getitem.lookup hs (thn (ho pins s σ H _ I h) fun u s1 ⟨x, H1, I1, rx, q1⟩ => thn (hi pins s1 σ H1 _ I1 q1) fun iv s2 ⟨y, H2, I2, ry, a, v, ex, g, q2⟩ => ?_)
  subst ex
  obtain rfl : u = Value.ref a := rx
  exact ⟨dict_typeIs I2 g, d_getItem hu I2 g ry fun w' s3 I3 rw' => ⟨v, H2, I3, rw', q2⟩⟩
theorem pc_din (hu : X.A.units + 1 < cLine) (hi : PE X i ty) (ho : PE X o td) : PC X .In i o (tDIn ty td) := by
  intro pins s σ H Q I h
  refine thn (hi pins s σ H _ I h) fun iv s1 ⟨y, H1, I1, ry, q1⟩ => thn (ho pins s1 σ H1 _ I1 q1) fun u s2 ⟨x, H2, I2, rx, a, ov, ex, g, q2⟩ => ?_
  subst ex
  obtain rfl : u = Value.ref a := rx
  exact d_in hu I2 g ry fun s3 I3 => ⟨.bl ov.isSome, H2, I3, rfl, q2⟩
theorem pc_dnotin (hu : X.A.units + 1 < cLine) (hi : PE X i ty) (ho : PE X o td) : PC X .NotIn i o (tDNotIn ty td) := by
  intro pins s σ H Q I h
  refine thn (hi pins s σ H _ I h) fun iv s1 ⟨y, H1, I1, ry, q1⟩ => thn (ho pins s1 σ H1 _ I1 q1) fun u s2 ⟨x, H2, I2, rx, a, ov, ex, g, q2⟩ => ?_
  subst ex
  obtain rfl : u = Value.ref a := rx
  exact d_notIn hu I2 g ry fun s3 I3 => ⟨.bl (!ov.isSome), H2, I3, rfl, q2⟩
theorem ps_dput (hu : X.A.units + 1 < cLine) (ho : PE X o td) (hi : PE X i ty) (hv : PE X value tv) (hs : swapsWith value (some (.Subscript o i pos')) pos.line X.env = pure false) :
    PS X (.Assign [.Subscript o i pos'] value pos) (sDPut td ty tv) := by
  intro pins s σ H D I h
  refine wpAny_Assign_Subscript (thn (hv pins s σ H _ I h) fun r s1 ⟨v, H1, I1, rv, q1⟩ => thn (ho pins s1 σ H1 _ I1 q1) fun u s2 ⟨x, H2, I2, rx, q2⟩ => thn (hi pins s2 σ H2 _ I2 q2) fun iv s3 ⟨y, H3, I3, ry, a, H4, ex, g, q3⟩ => ?_) hs
  subst ex
  obtain rfl : u = Value.ref a := rx
  exact d_setItem hu I3 g ry rv fun s4 I4 => ⟨σ, H4, I4, q3⟩
theorem ps_daug {op : Operator} {rd : V → V → Hp → VK → Prop} (hu : X.A.units + 1 < cLine) (ho : PE X o td) (hi : PE X i ty) (hv : PE X value tv) (hop : InOp X op rd)
    (ha : ∀ ov iv new, augStore i ov iv new = (do holding [new, ov, iv] (setItem ov iv new); release [new, ov, iv] []; pure .next)) : PS X (.AugAssign (.Subscript o i tpos) op value pos) (sDAug td ty tv rd) := by
  intro pins s σ H D I h
  refine wpAny_AugAssign_SubscriptAny (thn (ho pins s σ H _ I h) fun u s1 ⟨x, H1, I1, rx, q1⟩ => thn (hi pins s1 σ H1 _ I1 q1) fun iv s2 ⟨y, H2, I2, ry, a, v, ex, g, q2⟩ => ?_) ha
  subst ex
  obtain rfl : u = Value.ref a := rx
  refine d_getItem hu I2 g ry fun w' s3 I3 rw' => thn (hv pins s3 σ H2 _ I3 q2) fun w2 s4 ⟨y2, H3, I4, ry2, q3⟩ => thn (hop pins s4 σ H3 v y2 w' w2 _ I4 rw' ry2 q3) fun w3 s5 ⟨z, H4, I5, rz, H5, g5, q4⟩ => ?_
  exact d_setItem hu I5 g5 ry rz fun s6 I6 => ⟨σ, H5, I6, q4⟩
theorem ps_ddel (ho : PE X o td) (hi : PE X i ty) : PS X (.Delete [.Subscript o i tpos] pos) (sDDel td ty) := by
  intro pins s σ H D I h
  refine wpAny_Delete (wpAny_deleteEach_cons (wpAny_delete_Subscript (thn (ho pins s σ H _ I h) fun u s1 ⟨x, H1, I1, rx, q1⟩ => thn (hi pins s1 σ H1 _ I1 q1) fun iv s2 ⟨y, H2, I2, ry, a, kvs, k, ex, e, ey, l, q2⟩ => ?_)))
  subst ex ey
  obtain rfl : u = Value.ref a := rx
  exact d_delItem I2 e ry l fun s3 I3 => wpAny_deleteEach_nil ⟨σ, _, I3, q2⟩
end


/-! ### displays -/
theorem dk_empty {P : Program} {w : World} {H : Hp} (h : Heap) (hb : sysModules < h.objs.size) : ObjOk P w H (h.push { cls := .type "dict", data := .dict #[] }) h.objs.size (.dK []) :=
  ⟨Nat.zero_le _, beq_eq_false_iff_ne.mpr (Ne.symm (Nat.ne_of_lt hb)), [], .nil, Heap.DictOf.new h⟩
theorem dt_empty {P : Program} {w : World} {H : Hp} (h : Heap) (hb : sysModules < h.objs.size) : ObjOk P w H (h.push { cls := .type "dict", data := .dict #[] }) h.objs.size (.dT []) :=
  ⟨Nat.zero_le _, beq_eq_false_iff_ne.mpr (Ne.symm (Nat.ne_of_lt hb)), [], .nil, _, #[], 0, Heap.get?_push_size _ rfl, ⟨rfl, rfl, rfl⟩, rfl, rfl, List.nodup_nil⟩
/-- {}, to be a dict of the kind that is wanted -/
def tDNewK : TE := fun _ H Q => ∀ p, H p = none → Q (.ref p) (upd H p (.dK []))
def tDNewT : TE := fun _ H Q => ∀ p, H p = none → Q (.ref p) (upd H p (.dT []))
section
variable {X : Cx} {pos : Pos}
theorem pe_dnewK : PE X (.Dict [] [] pos) tDNewK := fun pins s σ H Q I h =>
  wpAny_Dict_empty ⟨.ref s.heap.objs.size, _, I.laid (a := s.heap.objs.size) (o := .dK []) (t' := s.toks) (fun _ _ q => Heap.get?_push_of_some _ q) (Nat.le_refl _) (dk_empty s.heap I.big), rfl, h _ (I.hok.fresh (Nat.le_refl _))⟩
theorem pe_dnewT : PE X (.Dict [] [] pos) tDNewT := fun pins s σ H Q I h =>
  wpAny_Dict_empty ⟨.ref s.heap.objs.size, _, I.laid (a := s.heap.objs.size) (o := .dT []) (t' := s.toks) (fun _ _ q => Heap.get?_push_of_some _ q) (Nat.le_refl _) (dt_empty s.heap I.big), rfl, h _ (I.hok.fresh (Nat.le_refl _))⟩
end

/-- the pairs of a display, from the left -/
def tPairs : List (TE × TE) → St → Hp → (List (V × V) → Hp → Prop) → Prop
  | [], _, H, Q => Q [] H
  | (tk, tv) :: r, σ, H, Q => tk σ H fun x H1 => tv σ H1 fun y H2 => tPairs r σ H2 fun ps H3 => Q ((x, y) :: ps) H3
abbrev VV : List (V × V) → List (Value × Value) → Prop := Paired fun p q => RelV p.1 q.1 ∧ RelV p.2 q.2
def PPs (X : Cx) (pos : Pos) (keys : List (Option Expr)) (values : List Expr) (trs : List (TE × TE)) : Prop :=
  ∀ (pins : List (Addr × Obj)) (s : Shared) (σ : St) (H : Hp) (Q : List (V × V) → Hp → Prop), Inv X pins σ H s → tPairs trs σ H Q →
    wpAny (model X.prog X.w) X.A (evalPairs (pairTrees keys values X.env pos)) (fun vs s' => ∃ ps H', Inv X pins σ H' s' ∧ VV ps vs ∧ Q ps H') X.xe s
theorem pps_nil {X : Cx} {pos : Pos} : PPs X pos [] [] [] := fun pins s σ H Q I h => pairTrees_nil_walk ⟨[], H, I, .nil, h⟩
theorem pps_cons {X : Cx} {pos : Pos} {k v : Expr} {ks : List (Option Expr)} {vs : List Expr} {tk tv : TE} {trs : List (TE × TE)} (hk : PE X k tk) (hv : PE X v tv) (hr : PPs X pos ks vs trs) :
    PPs X pos (some k :: ks) (v :: vs) ((tk, tv) :: trs) := fun pins s σ H Q I h =>
  pairTrees_cons_walk (thn (hk pins s σ H _ I h) fun u s1 ⟨x, H1, I1, rx, q1⟩ => thn (hv pins s1 σ H1 _ I1 q1) fun w2 s2 ⟨y, H2, I2, ry, q2⟩ =>
    thn (hr pins s2 σ H2 _ I2 q2) fun ws s3 ⟨ps, H3, I3, rel, q3⟩ => ⟨(x, y) :: ps, H3, I3, .cons ⟨rx, ry⟩ rel, q3⟩)

def mergeK (kvs more : List (Key × V)) : List (Key × V) := more.foldl (fun acc kv => putK acc kv.1 kv.2) kvs
theorem KV.merge : ∀ {more : List (Key × V)} {rs : List (Key × Value)} {kvs : List (Key × V)} {vs : List (Key × Value)}, KV more rs → KV kvs vs → KV (mergeK kvs more) (merged vs rs) := by
  intro more rs kvs vs r
  unfold KV at r
  induction r generalizing kvs vs with
  | nil => intro q; exact q
  | @cons p q ps qs h t ih =>
    intro r0
    have e : KV (putK kvs p.1 p.2) (stored vs q.1 q.2) := by
      have := r0.put p.1 h.2
      rw [← h.1]; exact this
    exact ih e
theorem length_mergeK : ∀ (more kvs : List (Key × V)), (mergeK kvs more).length ≤ kvs.length + more.length
  | [], kvs => by show kvs.length ≤ kvs.length + 0; omega
  | p :: r, kvs => by
    have h1 := length_mergeK r (putK kvs p.1 p.2)
    have h2 := length_putK kvs p.1 p.2
    show (mergeK (putK kvs p.1 p.2) r).length ≤ _
    rw [List.length_cons]; omega
theorem carries_of {P : Program} {w : World} : ∀ {kvs : List (Key × V)} {ws : List (Value × Value)}, VV (kvs.map fun kv => (kV kv.1, kv.2)) ws → ∃ rs, Carries (mixKind P w) ws rs ∧ KV kvs rs
  | [], _, r => by rw [List.map_nil] at r; cases r; exact ⟨[], True.intro, .nil⟩
  | p :: kvs, _, r => by
    rw [List.map_cons] at r
    cases r with
    | @cons a b as bs h t =>
      obtain ⟨rs, c, q⟩ := carries_of (P := P) (w := w) t
      obtain ⟨b1, b2⟩ := b
      exact ⟨(p.1, b2) :: rs, ⟨kV_is h.1, rfl, c⟩, .cons ⟨rfl, h.2⟩ q⟩
/-- {k: v, ..} with keys ints and texts; the new dict stands empty while the pairs are made -/
def tDisp (trs : List (TE × TE)) : TE := fun σ H Q => ∀ p, H p = none → tPairs trs σ (upd H p (.dK [])) fun ps H2 => H2 p = some (.dK []) ∧ ∃ kvs : List (Key × V), ps = kvs.map (fun kv => (kV kv.1, kv.2)) ∧ kvs.length ≤ 15 ∧ Q (.ref p) (upd H2 p (.dK (mergeK [] kvs)))
theorem pe_disp {X : Cx} {pos : Pos} {keys : List (Option Expr)} {values : List Expr} {trs : List (TE × TE)} (h : PPs X pos keys values trs) (hall : keys.all (·.isSome) = true) (hl : keys.length = values.length) (h0 : keys ≠ [])
    (h15 : keys.length ≤ 15) : PE X (.Dict keys values pos) (tDisp trs) := by
  intro pins s σ H Q I q
  have hn := I.hok.fresh (Nat.le_refl s.heap.objs.size)
  have I1 := I.laid (a := s.heap.objs.size) (o := .dK []) (h' := s.heap.push { cls := .type "dict", data := .dict #[] }) (t' := s.toks) (fun _ _ q => Heap.get?_push_of_some _ q) (Nat.le_refl _) (dk_empty s.heap I.big)
  refine wpAny_Dict_walk (knd := mixKind X.prog X.w) hall hl h0 h15 (thn (h pins _ σ _ _ I1 (q _ hn)) fun ws s2 ⟨ps, H2, I2, rel, e, kvs, ep, lk, q2⟩ => ?_)
  subst ep
  obtain ⟨rs, c, rk⟩ := carries_of (P := X.prog) (w := X.w) rel
  obtain ⟨z, hd, vs0, r0, dd⟩ := dk_of I2.hok e
  cases r0
  refine ⟨rs, c, dd, fun h' dd' hs => ⟨.ref s.heap.objs.size, _, ?_, rfl, q2⟩⟩
  have hz : (mergeK [] kvs).length ≤ sizeLine := by
    have h1 := length_mergeK kvs []
    rw [List.length_nil] at h1
    rw [sizeLine_eq]; omega
  have he : ∃ q, h'.get? s.heap.objs.size = some q := let ⟨q, _, _, hq, _⟩ := dd'; ⟨q, hq⟩
  exact d_write I2 (by rw [e]; exact True.intro) hs he (dk_new hz hd (rk.merge .nil) dd')


/-! ### methods -/
/-- a method call o.m(e) of a built-in, with one argument: what must be seen of the text -/
structure M1 (X : Cx) (o : Expr) (m : Str) (apos : Pos) (e : Expr) (cpos : Pos) : Prop where
  base : attributeBase o m X.env (eval o X.env) = eval o X.env
  few : ((backTo cpos (starEach [e] X.env)).all (fun x => !x.1) && (backToKw cpos (keywordEach [] X.env)).all (fun x => x.1.isSome)
    && decide (([e] : List Expr).length + ([] : List Keyword).length + (if ([] : List Keyword).isEmpty then 0 else 1) < 30)) = true
  line : (apos.endLine == cpos.line) = true
  trees : backTo cpos (starEach [e] X.env) = [(false, eval e X.env)]
structure M2 (X : Cx) (o : Expr) (m : Str) (apos : Pos) (e f : Expr) (cpos : Pos) : Prop where
  base : attributeBase o m X.env (eval o X.env) = eval o X.env
  few : ((backTo cpos (starEach [e, f] X.env)).all (fun x => !x.1) && (backToKw cpos (keywordEach [] X.env)).all (fun x => x.1.isSome)
    && decide (([e, f] : List Expr).length + ([] : List Keyword).length + (if ([] : List Keyword).isEmpty then 0 else 1) < 30)) = true
  line : (apos.endLine == cpos.line) = true
  trees : backTo cpos (starEach [e, f] X.env) = [(false, eval e X.env), (false, eval f X.env)]

/-- a is a dict, whatever its keys -/
def IsD (H : Hp) (a : Addr) : Prop := (∃ kvs, Rd H a (.dK kvs)) ∨ ∃ kvs, Rd H a (.dT kvs)
theorem isD_at {X : Cx} {pins : List (Addr × Obj)} {σ : St} {H : Hp} {s : Shared} {a : Addr} (I : Inv X pins σ H s) (d : IsD H a) :
    s.TypeIs (.ref a) "dict" ∧ (∀ b, Value.ref a = .ref b → ∃ ob, s.heap.get? b = some ob ∧ ob.dict = none) ∧ (a == sysModules) = false := by
  rcases d with ⟨kvs, e⟩ | ⟨kvs, e⟩
  · obtain ⟨_, hd, vs, _, dd⟩ := dk_rd I.hok e
    refine ⟨dd.typeIs, fun b q => ?_, hd⟩
    cases q
    obtain ⟨ob, _, _, h1, h2, _⟩ := dd
    exact ⟨ob, h1, h2.2.1⟩
  · obtain ⟨_, hd, xs, _, dd⟩ := dt_rd I.hok e
    refine ⟨dd.typeIs, fun b q => ?_, hd⟩
    cases q
    obtain ⟨ob, _, _, h1, h2, _⟩ := dd
    exact ⟨ob, h1, h2.2.1⟩

section
variable {X : Cx} {pins : List (Addr × Obj)} {σ : St} {H : Hp} {s : Shared} {a : Addr} {y d : V} {u r : Value} {o : Option V} {A : Around} {E : Value → Shared → Prop}
/-- d.get(y) -/
theorem d_get1 {Q : Value → Shared → Prop} (hu : A.units + 1 < cLine) (I : Inv X pins σ H s) (g : DGet H a y o) (ry : RelV y u) (h : ∀ w' s', Inv X pins σ H s' → RelV (o.getD .non) w' → Q w' s') :
    wpAny (model X.prog X.w) A (call (.builtin "dict.get") [.ref a, u]) Q E s := by
  rcases g with ⟨kvs, k, e, ey, l⟩ | ⟨kvs, k, b, e, ey, eb, l⟩
  · subst ey
    obtain ⟨z, hd, vs, rel, dd⟩ := dk_rd I.hok e
    refine call_meetsIn PySem.F.slot_dict_get dd.typeIs PySem.F.entry_dict_get (PySem.F.args_dict_get_2 _ _) (meets_dict_get (mixKind X.prog X.w) a (kV_is ry) hd) ⟨_, dd.mapOf, h _ _ (I.tok _) ?_⟩
    rw [l]
    exact (rel.val k).getD rfl
  · subst ey
    cases (show u = Value.ref b from ry)
    obtain ⟨z, hd, xs, rel, dd⟩ := dt_rd I.hok e
    refine call_meetsIn PySem.F.slot_dict_get dd.typeIs PySem.F.entry_dict_get (PySem.F.args_dict_get_2 _ _) (meetsH_dict_get (tupleKind (mixKind X.prog X.w)) a b hd) ⟨tupleKind_room_in1 hu, k, xs, key_of I.hok eb, dd, h _ _ (I.tok _) ?_⟩
    rw [l]
    exact (rel.val k).getD rfl
/-- d.get(y, x) -/
theorem d_get2 {Q : Value → Shared → Prop} (hu : A.units + 1 < cLine) (I : Inv X pins σ H s) (g : DGet H a y o) (ry : RelV y u) (rd : RelV d r) (h : ∀ w' s', Inv X pins σ H s' → RelV (o.getD d) w' → Q w' s') :
    wpAny (model X.prog X.w) A (call (.builtin "dict.get") [.ref a, u, r]) Q E s := by
  rcases g with ⟨kvs, k, e, ey, l⟩ | ⟨kvs, k, b, e, ey, eb, l⟩
  · subst ey
    obtain ⟨z, hd, vs, rel, dd⟩ := dk_rd I.hok e
    refine call_meetsIn PySem.F.slot_dict_get dd.typeIs PySem.F.entry_dict_get (PySem.F.args_dict_get_3 _ _ _) (meets_dict_get_default (mixKind X.prog X.w) a (kV_is ry) hd r) ⟨_, dd.mapOf, h _ _ (I.tok _) ?_⟩
    rw [l]
    exact (rel.val k).getD rd
  · subst ey
    cases (show u = Value.ref b from ry)
    obtain ⟨z, hd, xs, rel, dd⟩ := dt_rd I.hok e
    refine call_meetsIn PySem.F.slot_dict_get dd.typeIs PySem.F.entry_dict_get (PySem.F.args_dict_get_3 _ _ _) (meetsH_dict_get_default (tupleKind (mixKind X.prog X.w)) a b hd r) ⟨tupleKind_room_in1 hu, k, xs, key_of I.hok eb, dd, h _ _ (I.tok _) ?_⟩
    rw [l]
    exact (rel.val k).getD rd
end

def tDGet1 (td ty : TE) : TE := fun σ H Q => td σ H fun x H1 => ∃ a, x = .ref a ∧ IsD H1 a ∧ ty σ H1 fun y H2 => ∃ o, DGet H2 a y o ∧ Q (o.getD .non) H2
def tDGet2 (td ty tx : TE) : TE := fun σ H Q => td σ H fun x H1 => ∃ a, x = .ref a ∧ IsD H1 a ∧ ty σ H1 fun y H2 => tx σ H2 fun z H3 => ∃ o, DGet H3 a y o ∧ Q (o.getD z) H3
/-- d.pop(k): there; d.pop(k, x): there or not -/
def tDPop1 (td ty : TE) : TE := fun σ H Q => td σ H fun x H1 => ∃ a, x = .ref a ∧ IsD H1 a ∧ ty σ H1 fun y H2 => ∃ kvs k v, H2 a = some (.dK kvs) ∧ y = kV k ∧ valV kvs k = some v ∧ Q v (upd H2 a (.dK (dropK kvs k)))
def tDPop2 (td ty tx : TE) : TE := fun σ H Q => td σ H fun x H1 => ∃ a, x = .ref a ∧ IsD H1 a ∧ ty σ H1 fun y H2 => tx σ H2 fun z H3 => ∃ kvs k, H3 a = some (.dK kvs) ∧ y = kV k ∧
  (∀ v, valV kvs k = some v → Q v (upd H3 a (.dK (dropK kvs k)))) ∧ (valV kvs k = none → Q z H3)
section
variable {X : Cx} {o e f : Expr} {apos cpos : Pos} {td ty tx : TE}
theorem pe_dget1 (hu : X.A.units + 1 < cLine) (ho : PE X o td) (he : PE X e ty) (m : M1 X o "get" apos e cpos) : PE X (.Call (.Attribute o "get" apos) [e] [] cpos) (tDGet1 td ty) := by
  intro pins s σ H Q I h
  refine wpAny_Call_method m.base m.few m.line PySem.F.plainAttrs_dict PySem.F.slot_dict_get PySem.F.type_dict_get (thn (ho pins s σ H _ I h) fun u s1 ⟨x, H1, I1, rx, a, ex, d, q1⟩ => ?_)
  subst ex
  obtain rfl : u = Value.ref a := rx
  obtain ⟨t1, t2, _⟩ := isD_at I1 d
  refine ⟨t1, t2, ?_⟩
  rw [m.trees]
  refine Calls.callWith_builtin rfl (Calls.evalArgs_plain (Calls.spliced_cons (thn (he pins s1 σ H1 _ I1 q1) fun iv s2 ⟨y, H2, I2, ry, ov, g, q2⟩ => Calls.spliced_nil ?_)))
  exact d_get1 hu I2 g ry fun w' s3 I3 rw' => ⟨_, H2, I3, rw', q2⟩
theorem pe_dget2 (hu : X.A.units + 1 < cLine) (ho : PE X o td) (he : PE X e ty) (hf : PE X f tx) (m : M2 X o "get" apos e f cpos) : PE X (.Call (.Attribute o "get" apos) [e, f] [] cpos) (tDGet2 td ty tx) := by
  intro pins s σ H Q I h
  refine wpAny_Call_method m.base m.few m.line PySem.F.plainAttrs_dict PySem.F.slot_dict_get PySem.F.type_dict_get (thn (ho pins s σ H _ I h) fun u s1 ⟨x, H1, I1, rx, a, ex, d, q1⟩ => ?_)
  subst ex
  obtain rfl : u = Value.ref a := rx
  obtain ⟨t1, t2, _⟩ := isD_at I1 d
  refine ⟨t1, t2, ?_⟩
  rw [m.trees]
  refine Calls.callWith_builtin rfl (Calls.evalArgs_plain (Calls.spliced_cons (thn (he pins s1 σ H1 _ I1 q1) fun iv s2 ⟨y, H2, I2, ry, q2⟩ =>
    Calls.spliced_cons (thn (hf pins s2 σ H2 _ I2 q2) fun fv s3 ⟨z, H3, I3, rz, ov, g, q3⟩ => Calls.spliced_nil ?_))))
  exact d_get2 hu I3 g ry rz fun w' s4 I4 rw' => ⟨_, H3, I4, rw', q3⟩
theorem pe_dpop1 (ho : PE X o td) (he : PE X e ty) (m : M1 X o "pop" apos e cpos) : PE X (.Call (.Attribute o "pop" apos) [e] [] cpos) (tDPop1 td ty) := by
  intro pins s σ H Q I h
  refine wpAny_Call_method m.base m.few m.line PySem.F.plainAttrs_dict PySem.F.slot_dict_pop PySem.F.type_dict_pop (thn (ho pins s σ H _ I h) fun u s1 ⟨x, H1, I1, rx, a, ex, d, q1⟩ => ?_)
  subst ex
  obtain rfl : u = Value.ref a := rx
  obtain ⟨t1, t2, _⟩ := isD_at I1 d
  refine ⟨t1, t2, ?_⟩
  rw [m.trees]
  refine Calls.callWith_builtin rfl (Calls.evalArgs_plain (Calls.spliced_cons (thn (he pins s1 σ H1 _ I1 q1) fun iv s2 ⟨y, H2, I2, ry, kvs, k, v, ea, ey, l, q2⟩ => Calls.spliced_nil ?_)))
  subst ey
  exact d_pop I2 ea ry l (.inl rfl) fun w' s3 I3 rw' => ⟨v, _, I3, rw', q2⟩
theorem pe_dpop2 (ho : PE X o td) (he : PE X e ty) (hf : PE X f tx) (m : M2 X o "pop" apos e f cpos) : PE X (.Call (.Attribute o "pop" apos) [e, f] [] cpos) (tDPop2 td ty tx) := by
  intro pins s σ H Q I h
  refine wpAny_Call_method m.base m.few m.line PySem.F.plainAttrs_dict PySem.F.slot_dict_pop PySem.F.type_dict_pop (thn (ho pins s σ H _ I h) fun u s1 ⟨x, H1, I1, rx, a, ex, d, q1⟩ => ?_)
  subst ex
  obtain rfl : u = Value.ref a := rx
  obtain ⟨t1, t2, _⟩ := isD_at I1 d
  refine ⟨t1, t2, ?_⟩
  rw [m.trees]
  refine Calls.callWith_builtin rfl (Calls.evalArgs_plain (Calls.spliced_cons (thn (he pins s1 σ H1 _ I1 q1) fun iv s2 ⟨y, H2, I2, ry, q2⟩ =>
    Calls.spliced_cons (thn (hf pins s2 σ H2 _ I2 q2) fun fv s3 ⟨z, H3, I3, rz, kvs, k, ea, ey, q3, q4⟩ => Calls.spliced_nil ?_))))
  subst ey
  cases l : valV kvs k with
  | some v => exact d_pop I3 ea ry l (.inr ⟨fv, rfl⟩) fun w' s4 I4 rw' => ⟨v, _, I4, rw', q3 v l⟩
  | none => exact d_popD I3 ea ry l fun s4 I4 => ⟨z, H3, I4, rz, q4 l⟩
end

/-! ### dict(d): a copy -/
section
variable {X : Cx} {pins : List (Addr × Obj)} {σ : St} {H : Hp} {s : Shared} {a : Addr} {kvs : List (Key × V)} {A : Around} {E : Value → Shared → Prop}
theorem d_copyOf {Q : Value → Shared → Prop} (I : Inv X pins σ H s) (e : Rd H a (.dK kvs)) (h : ∀ p s', H p = none → Inv X pins σ (upd H p (.dK kvs)) s' → Q (.ref p) s') : wpAny (model X.prog X.w) A (call (.type "dict") [.ref a]) Q E s := by
  obtain ⟨z, hd, vs, rel, dd⟩ := dk_rd I.hok e
  refine kt_call_dict hd dd (by rw [← rel.length]; exact z) fun h' dd' hs => ?_
  refine h _ _ (I.hok.fresh (Nat.le_refl _)) (I.laid (a := s.heap.objs.size) (o := .dK kvs) (t' := s.toks) (fun b q hq => ?_) (Nat.le_refl _) (dk_new z (beq_eq_false_iff_ne.mpr (Ne.symm (Nat.ne_of_lt I.big))) rel dd'))
  exact (hs.2 b (Nat.ne_of_lt (Heap.lt_size hq))).trans (Heap.get?_push_of_some _ hq)
end


section
variable {X : Cx} {pins : List (Addr × Obj)} {σ : St} {H : Hp} {s : Shared} {a : Addr} {y : V} {u : Value} {A : Around} {E : Value → Shared → Prop}
/-- d[y], not there: a KeyError -/
theorem d_missing {Q : Value → Shared → Prop} (hu : A.units + 1 < cLine) (hh : A.handled = none) (I : Inv X pins σ H s) (g : DGet H a y none) (ry : RelV y u)
    (h : ∀ h' e t', Heap.NewExc s.heap h' e "KeyError" → E (.ref e) { s with heap := h', toks := t' }) : wpAny (model X.prog X.w) A (getItem (.ref a) u) Q E s := by
  rcases g with ⟨kvs, k, e, ey, l⟩ | ⟨kvs, k, b, e, ey, eb, l⟩
  · subst ey
    obtain ⟨z, hd, vs, rel, dd⟩ := dk_rd I.hok e
    have hn : valueAt vs k = none := RelO.none_of (by rw [l]; exact rel.val k)
    exact wpAny_getItem_missing_of (kV_is ry) hd hh dd.mapOf hn fun h' ex ne => h h' ex _ ne
  · subst ey
    cases (show u = Value.ref b from ry)
    obtain ⟨z, hd, xs, rel, dd⟩ := dt_rd I.hok e
    have hn : (atKey xs k).map (·.2) = none := RelO.none_of (by rw [l]; exact rel.val k)
    exact wpAny_getItem_missing_heap (tupleKind_room_in1 hu) (key_of I.hok eb) hd hh dd (Option.map_eq_none_iff.mp hn) fun h' ex ne => h h' ex _ ne
end
end L2
end
section
set_option Elab.async false
set_option linter.all false
set_option maxRecDepth 100000
namespace L2
open PySem PySem.Spec PyProof.Rows

theorem compLoop_any {prog : Program} {w : World} {A : Around} {R : Result → Shared → Prop} {s : Shared} {elt target iter : Expr} {scope : Scope} {pos : Pos} {it acc : Value} {env : Env} (I : Nat → Shared → Prop)
    (turn : ∀ n s, I n s → wpAny (model prog w) A (pyNext it) (fun r s₁ => match r with
      | none => R (.ok .next) s₁
      | some v => wpAny (model prog w) A (letOwnedTupleGo target it v) (fun _ s₁' => wpAny (model prog w) A (assign target env v) (fun _ s₂ => wpAny (model prog w) A (eval elt env) (fun x s₃ =>
          wpAny (model prog w) A (call (.builtin "list.append") [acc, x]) (fun _ s₄ => ∃ m, m < n ∧ I m s₄) (fun _ _ => False) s₃)
          (fun _ _ => False) s₂) (fun _ _ => False) s₁') (fun _ _ => False) s₁) (fun _ _ => False) s)
    (n : Nat) (h : I n s) :
    codeAny (model prog w) A (.compLoop (.ListComp elt [⟨target, iter, [], 0⟩] scope pos) 0 it acc env) R s := by
  refine codeAny_loop rfl I (fun n s hI => ?_) n h
  show wpAny _ _ ((compTurn (.ListComp elt [⟨target, iter, [], 0⟩] scope pos) 0 it acc env).onRaise (fun x => do noteFrame x env; theTreesLotGoes x)) _ _ s
  refine wpAny_noted ?_
  rw [compTurn_list1]
  refine wpAny_bind (wpAny_standAt (wpAny_bind (wpAny_mono (turn n s hI) (fun r s₁ h₁ => ?_) fun _ _ h' => h'.elim)))
  cases r with
  | none => exact wpAny_pure h₁
  | some v =>
    refine wpAny_bind (wpAny_mono h₁ (fun _ s₁' h₁' => ?_) fun _ _ h' => h'.elim)
    exact wpAny_bind (wpAny_mono h₁' (fun _ s₂ h₂ => wpAny_bind (wpAny_bind (wpAny_mono h₂ (fun x s₃ h₃ => wpAny_bind (wpAny_mono h₃
      (fun _ s₄ h₄ => wpAny_pure (wpAny_pure ⟨rfl, h₄⟩)) fun _ _ h' => h'.elim)) fun _ _ h' => h'.elim))) fun _ _ h' => h'.elim)

/-- a comprehension's block as a context -/
def cxComp (X : Cx) (N : List Str) (scope : Scope) (cl : List (Str × Addr)) (C : Addr) (ex : List Addr) (s : Shared) (H : Hp) : Cx :=
  { X with N := N, s₀ := s, H₀ := H, env := compEnvC scope cl C X.env, outer := X.stack, ex := ex, fn := fun _ => false, pn := [], xe := fun _ _ => False }

/-- the slots that are captured -/
def capsOf (caps : List Nat) (σ : St) : St := caps.map fun j => (σ[j]?).getD none

def tComp (caps : List Nat) (wi : TI) (te : TE) : TE := fun σ H Q => wi σ H fun J H1 => ∃ (n : Nat) (W : Nat → List V → Hp → Prop), n < sizeLine ∧ W 0 [] H1 ∧ ∀ i zs H, W i zs H →
  (J.stop i H ∧ ∀ p, H p = none → Q (.ref p) (upd H p (.lst zs))) ∨ (J.go i H ∧ i < n ∧ ∀ x H', J.yld i H x H' → te (some x :: capsOf caps σ) H' fun z H3 => W (i + 1) (zs ++ [z]) H3)

/-- what a comprehension captures: cl the closure, cn its names, caps their slots outside -/
structure Caps (X : Cx) (scope : Scope) (x : Str) (cl : List (Str × Addr)) (cn : List Str) (caps : List Nat) : Prop where
  clos : closureFor scope X.env = pure cl
  cell : ∀ y ∈ scope.names, y.2 ≠ .cell
  kind : scope.kind = .function
  names : ∀ y ∈ scope.names, y.2 = .local → scope.names.lookup y.1 = some .local
  hx : scope.names.lookup x = some .local
  sub : ∀ y c, cl.lookup y = some c → X.env.cells.lookup y = some c
  has : ∀ y, ((relabel scope X.env).names.lookup y = some .cell ∨ (relabel scope X.env).names.lookup y = some .free) → ∃ c, cl.lookup y = some c
  nd : (x :: cn).Nodup
  len : cn.length = caps.length
  cap : ∀ (k : Nat) (y : Str), cn[k]? = some y → ∃ j : Nat, caps[k]? = some j ∧ X.N[j]? = some y ∧ Vis X.env.scope y ∧ (X.env.kindOf y = some .cell ∨ X.env.kindOf y = some .free) ∧ ((relabel scope X.env).names.lookup y = some .cell ∨ (relabel scope X.env).names.lookup y = some .free)

def listO (us : List Value) (n : Nat) : Obj := { cls := .type "list", data := .seq us.toArray n }

section
variable {X : Cx}
theorem pe_comp {elt iter : Expr} {x : Str} {px pos : Pos} {scope : Scope} {cl : List (Str × Addr)} {cn : List Str} {caps : List Nat} {wi : TI} {te : TE}
    (hc : X.calm = true) (hi : PI X (.Name x px) iter wi) (cp : Caps X scope x cl cn caps) (he : ∀ C ex s H, PE (cxComp X (x :: cn) scope cl C ex s H) elt te)
    (hs : ∀ x, foldedSetIterable iter X.env x = pure x := by intro _; rfl) :
    PE X (.ListComp elt [⟨.Name x px, iter, [], 0⟩] scope pos) (tComp caps wi te) := by
  intro pins s σ H Q I h
  rw [eval_ListComp]
  refine wpAny_comprehension_free (use := none) rfl hs cp.clos cp.kind cp.names (thn (hi pins s σ H _ I h) fun v s1 h1 => thn h1 fun itv s2 h2 => ?_)
  obtain ⟨it, fp, tn, J, H2, e, I2, T, st2, f2, n, W, hn, w0, turn⟩ := h2
  subst e
  refine wpAny_newObj_type (wpAny_newFunctionEnv cp.cell (by intro y hy; simp at hy) (fun h₁ hns₁ hsb₁ => ?_) cp.kind)
  dsimp only at hns₁ hsb₁ ⊢
  generalize hG : s2.heap.push { cls := .type "list", dict := none, data := .seq ([] : List Value).toArray } = G at hns₁ hsb₁ ⊢
  have hC : G.objs.size = s2.heap.objs.size + 1 := by rw [← hG, Heap.size_push]
  generalize hCe : G.objs.size = C at hns₁ hsb₁ hC ⊢
  generalize hDe : s2.heap.objs.size = D at hC ⊢
  have hDC : D ≠ C := by rw [hC]; exact Nat.ne_of_lt (Nat.lt_succ_self _)
  have below : ∀ b, b < D → b ≠ C ∧ b ≠ D := fun b hb => ⟨by rw [hC]; exact Nat.ne_of_lt (Nat.lt_succ_of_lt hb), Nat.ne_of_lt hb⟩
  have old : ∀ b o, s2.heap.get? b = some o → h₁.get? b = some o := fun b o e => hsb₁.extBut b o (below b (hDe ▸ Heap.lt_size e)).1 (Heap.get?_push_of_some _ (hG ▸ Heap.get?_push_of_some _ e))
  have hacc : h₁.get? D = some (listO [] 0) := hsb₁.extBut _ _ hDC (Heap.get?_push_of_some _ (by rw [← hG, ← hDe]; exact Heap.get?_push_size _ rfl))
  have fpl : ∀ b ∈ fp, b < D := fun b hb => by
    obtain ⟨o, e, _⟩ := T.obj _ _ st2 b hb
    exact hDe ▸ Heap.lt_size e
  have hDs : s2.heap.objs.size ≤ D := Nat.le_of_eq hDe
  have hCs : s2.heap.objs.size ≤ C := by omega
  have fsN : ∀ {b}, b ≠ X.env.locals → b ∉ X.fs → b ∉ frs X.stack := fun {b} h1 h2 z => (List.mem_cons.mp (I2.stkSub b z)).elim h1 h2
  have big : ∀ {a}, s2.heap.objs.size ≤ a → a ∉ frs X.stack := fun {a} ha => fsN (Nat.ne_of_gt (Nat.lt_of_lt_of_le I2.lt ha)) (I2.nofs ha)
  have cellLt : ∀ y c, cl.lookup y = some c → c < D := fun y c e => by
    obtain ⟨v, q⟩ := I2.cell y c (cp.sub y c e)
    exact hDe ▸ q.lt
  -- the inner context
  have ok : (cxComp X (x :: cn) scope cl C fp s2 H2).Ok := by
    refine ⟨I2.ok.mod, cp.kind, I2.ok.glob, I2.ok.blt, hCs, fun y z c h1 h2 => I2.ok.inj y z c (cp.sub y c h1) (cp.sub z c h2), fun y hy => cp.has y hy, fun y c hf => (by cases hf), I2.ok.hd, I2.ok.frames, .inl rfl, fun b hb => ?_, I2.bs, Nat.le_trans I2.ok.bsz I2.sz, fun b o e hb => ?_, fun b hb => ?_, I2.stack, I2.stkFree⟩
    · exact ⟨(below b (fpl b hb)).1, fun y c e => (f2 b hb).2.2.2.2.1 y c (cp.sub y c e)⟩
    · obtain ⟨_, _, _, q, _⟩ := f2 b hb
      rcases q with q | q
      · exact I2.ok.noex b o e q
      · exact absurd (Nat.lt_of_lt_of_le (Heap.lt_size (I2.ok.bs b o e).1) q) (Nat.lt_irrefl _)
    · exact fsN (f2 b hb).2.1 (f2 b hb).2.2.1
  have stat : ∀ {us : List Value} {nn : Nat} {H' : Hp}, (∀ b ∈ fp, H' b = none) → ∀ b ∈ fp, FpOk (cxComp X (x :: cn) scope cl C fp s2 H2) [(D, listO us nn)] H' b := fun {us nn H'} hn b hb =>
    ⟨hn b hb, (below b (fpl b hb)).1, fsN (f2 b hb).2.1 (f2 b hb).2.2.1, .inl hb, fun y c e => (f2 b hb).2.2.2.2.1 y c (cp.sub y c e), fun p hp => by
      obtain rfl : p = (D, listO us nn) := by simpa [cxComp] using hp
      exact (below b (fpl b hb)).2.symm⟩
  -- one pin more: the list
  have pinD : ∀ {σ' : St} {H' : Hp} {s' : Shared} {us : List Value} {nn : Nat}, Inv (cxComp X (x :: cn) scope cl C fp s2 H2) [] σ' H' s' → H' D = none → s'.heap.get? D = some (listO us nn) → Inv (cxComp X (x :: cn) scope cl C fp s2 H2) [(D, listO us nn)] σ' H' s' := fun {σ' H' s' us nn} J hn e =>
    J.pins_of fun p hp => by
      obtain rfl : p = (D, listO us nn) := by simpa using hp
      exact ⟨e, hn, hDC, big hDs, fun v z => by cases z⟩
  have I4 : ∀ tk, Inv (cxComp X (x :: cn) scope cl C fp s2 H2) [] (none :: capsOf caps σ) H2 { s2 with heap := h₁, toks := tk } := fun tk => by
    refine ⟨ok, rfl, I2.bare, Un.kept old, ⟨_, hns₁, fun i y v h1 h2 h3 => ?_⟩, fun y c e => ?_, I2.hok.fresh hCs, fun y c e => I2.freeC y c (cp.sub y c e), fun p hp => absurd (show p ∈ ([] : List (Addr × Obj)) from hp) (by simp), I2.hok.kept old, ?_⟩
    · cases i with
      | zero => simp at h2
      | succ k =>
        have h1' : cn[k]? = some y := by simpa [cxComp] using h1
        obtain ⟨j, ej, eN, vis, kd, kd'⟩ := cp.cap k y h1'
        have h2' : σ[j]? = some (some v) := by
          have q : (capsOf caps σ)[k]? = some (some v) := by simpa using h2
          unfold capsOf at q
          rw [List.getElem?_map, ej] at q
          have q' : (σ[j]?).getD none = some v := by simpa using q
          cases eσ : σ[j]? with
          | none => rw [eσ] at q'; cases q'
          | some z => rw [eσ] at q'; rw [show z = some v from q']
        obtain ⟨m, hm, hl⟩ := I2.loc
        obtain ⟨u, ru, lk⟩ := hl j y v eN h2' vis
        refine ⟨u, ru, ?_⟩
        obtain ⟨c, ec⟩ := cp.has y kd'
        rcases lk with ⟨k1, _⟩ | ⟨_, c', ec', z⟩
        · rcases kd with kd | kd <;> (rw [kd] at k1; cases k1)
        · have : c = c' := Option.some.inj ((cp.sub y c ec).symm.trans ec')
          subst this
          obtain ⟨o, ho, hd⟩ := z
          exact .inr ⟨kd', c, ec, ⟨o, old c o ho, hd⟩⟩
    · obtain ⟨v, o, ho, hd⟩ := I2.cell y c (cp.sub y c e)
      exact ⟨v, o, old c o ho, hd⟩
    · show _ = (x :: cn).length
      simp [capsOf, cp.len]
  -- the loop
  have loop : ∀ s₃ : Shared, Inv (cxComp X (x :: cn) scope cl C fp s2 H2) [] (none :: capsOf caps σ) H2 s₃ → s₃.heap.get? D = some (listO [] 0) → tn 0 s₃.heap →
      codeAny (model X.prog X.w) X.A (.compLoop (.ListComp elt [⟨.Name x px, iter, [], 0⟩] scope pos) 0 (.ref it) (.ref D) (compEnvC scope cl C X.env))
        (compPost (model X.prog X.w) X.A X.xe none (EP X pins σ Q) (.ref D) C) s₃ := by
    intro s₃ I3 e3 t3
    refine compLoop_any (fun k s' => ∃ (i : Nat) (zs : List V) (us : List Value) (nn : Nat) (H' : Hp), k = n + 1 - i ∧ i ≤ n ∧ Inv (cxComp X (x :: cn) scope cl C fp s2 H2) [(D, listO us nn)] (none :: capsOf caps σ) H' s' ∧ tn i s'.heap ∧ (∀ b ∈ fp, H' b = none) ∧ W i zs H' ∧ Vals zs us ∧ zs.length = i) ?_ (n + 1)
      ⟨0, [], [], 0, H2, rfl, Nat.zero_le _, pinD I3 (I2.hok.fresh hDs) e3, t3, fun b hb => (f2 b hb).1, w0, .nil, rfl⟩
    rintro k s' ⟨i, zs, us, nn, H', rfl, hin, I', st', fr', w', vs', hl⟩
    have pD := I'.pin (D, listO us nn) (List.mem_append_right _ (by simp))
    rcases turn i zs H' w' with ⟨stop, fin⟩ | ⟨go, hlt, step⟩
    · refine thn (T.done (cxComp X (x :: cn) scope cl C fp s2 H2) rfl rfl rfl hc i _ s' _ H' (fun _ _ => False) I' (stat fr') st' stop) fun r s4 ⟨hr, I4'⟩ => ?_
      subst hr
      obtain ⟨m, hm, _⟩ := id I4'.loc
      refine ⟨m, hm, fun h' hs' => ?_⟩
      obtain ⟨e4, n4, _, _, _⟩ := I4'.pin (D, listO us nn) (List.mem_append_right _ (by simp))
      have e4 : s4.heap.get? D = some (listO us nn) := e4
      have n4 : H' D = none := n4
      have nC : H' C = none := I4'.free
      have kk : ∀ b o, b ≠ C → s4.heap.get? b = some o → h'.get? b = some o := fun b o hb e => (hs'.2 b hb).trans e
      have un : Un (frs X.stack) fp H2 (upd H' D (.lst zs)) s2.heap h' := by
        have u := I4'.base
        have ne : ∀ b o, s2.heap.get? b = some o → b ≠ C ∧ b ≠ D := fun b o e => below b (hDe ▸ Heap.lt_size e)
        refine ⟨fun b o e n0 hb hx => kk b o (ne b o e).1 (u.keep b o e n0 hb hx), fun b o e n0 hb hx => ?_, fun b o e n0 hx => ?_, fun b o e hx => ?_, fun b xs e => ?_, fun b o xs e => ?_, fun b ps e => ?_⟩
        · obtain ⟨sl, q⟩ := u.slot b o e n0 hb hx
          exact ⟨sl, kk b _ (ne b o e).1 q⟩
        · rw [upd_ne (ne b o e).2]; exact u.free b o e n0 hx
        · obtain ⟨o', q⟩ := u.there b o e hx
          exact ⟨o', kk b _ (ne b o e).1 q⟩
        · have q := u.tups b xs e
          rw [upd_ne (ne_of_none q n4)]; exact q
        · have q := u.frzs b o xs e
          rw [upd_ne (ne_of_none q n4)]; exact q
        · obtain ⟨more, q⟩ := u.tbls b ps e
          exact ⟨more, by rw [upd_ne (ne_of_none q n4)]; exact q⟩
      have hokD : HOk X.prog X.w (upd H' D (.lst zs)) h' := fun b o e => by
        by_cases hb : b = D
        · subst hb
          rw [upd_same] at e; cases e
          exact ⟨by omega, us, nn, vs', kk _ _ hDC e4⟩
        · rw [upd_ne hb] at e
          refine (I4'.hok b o e).stay (fun c v hcc q => kk c v ?_ q) (fun c q => ?_) fun c xs q => ?_
          · rintro rfl
            rcases hcc with z | z
            · rw [← z, nC] at e; cases e
            · rw [nC] at z; cases z
          · rw [upd_ne (ne_of_none q n4)]; exact q
          · rw [upd_ne (ne_of_none q n4)]; exact q
      obtain ⟨hh, gg, dd, tt, oo⟩ := s4
      obtain rfl : oo = s2.os := I4'.os
      refine ⟨.ref D, upd H' D (.lst zs), ?_, rfl, fin D n4⟩
      have fin1 := I2.call (h' := h') (g' := gg) (d' := dd) (t' := tt) (ch := fp) un hokD I4'.bare fun b hb => ⟨(f2 b hb).2.2.2.1, (f2 b hb).2.1, (f2 b hb).2.2.2.2.1, (f2 b hb).2.2.2.2.2⟩
      exact fin1
    · refine thn (T.item (cxComp X (x :: cn) scope cl C fp s2 H2) rfl rfl rfl hc i _ s' _ H' (fun _ _ => False) I' (stat fr') st' go) fun r s4 ⟨u, hr, h4⟩ => ?_
      subst hr
      refine thn h4 fun _ s5 ⟨y, H5, I5, r5, y5, st5, fr5⟩ => ?_
      have I5' := I5.pinned (stat fr5) (T.obj _ _ st5)
      refine thn ((pg_name (X := cxComp X (x :: cn) scope cl C fp s2 H2) (i := 0) cp.nd rfl (.inl (lookup_relabel_local cp.hx)) (.inr (lookup_relabel_local cp.hx))) _ s5 _ H5 y u (fun σ' H'' => σ' = some y :: capsOf caps σ ∧ H'' = H5) I5' r5 ⟨rfl, rfl⟩) fun _ s6 ⟨σ6, H6, I6, q6, q6'⟩ => ?_
      subst q6; subst q6'
      refine thn (he C fp s2 H2 _ s6 _ H6 _ I6 (step y H6 y5)) fun v7 s7 ⟨z, H7, I7, r7, w7⟩ => ?_
      obtain ⟨e7, n7, _, _, _⟩ := I7.pin (D, listO us nn) (List.mem_append_right _ (List.mem_append_left _ (by simp)))
      have e7 : s7.heap.get? D = some (listO us nn) := e7
      have n7 : H7 D = none := n7
      have hul : us.length = i := by rw [← vs'.length]; exact hl
      refine wpAny_list_append_plain (hsz := by rw [List.size_toArray]; omega) ⟨nn, e7⟩ fun h8 p8 sb8 => ?_
      obtain ⟨n8, e8⟩ := p8
      have e8 : h8.get? D = some (listO (us ++ [v7]) n8) := by rw [e8]; simp [listO]
      have I8 : Inv (cxComp X (x :: cn) scope cl C fp s2 H2) [] (some y :: capsOf caps σ) H7 { s7 with heap := h8 } :=
        Inv.turned (t' := s7.toks) (I7.pins_of fun p hp => absurd hp (by simp)) (fun b o hb e => (sb8.2 b hb).trans e) n7 hDC (.inr hDs) (fun y' c e => Nat.ne_of_lt (cellLt y' c e)) fun p hp => absurd (show p ∈ ([] : List (Addr × Obj)) from hp) (by simp)
      refine ⟨n + 1 - (i + 1), by omega, i + 1, zs ++ [z], us ++ [v7], n8, H7, rfl, hlt, ?_, ?_, fun b hb => ?_, w7, vs'.append (.cons r7 .nil), by rw [List.length_append, hl]; rfl⟩
      · refine pinD (I8.weak (by simp) fun j v e => ?_) n7 e8
        cases j with
        | zero => simp at e
        | succ j => simpa using e
      · refine T.keep _ _ _ st5 fun b hb o e => (sb8.2 b (below b (fpl b hb)).2).trans (I7.pin (b, o) (List.mem_append_right _ (List.mem_append_right _ (mem_pinsAt hb e)))).1
      · obtain ⟨o, e, d⟩ := T.obj _ _ st5 b hb
        exact (I7.pin (b, o) (List.mem_append_right _ (List.mem_append_right _ (mem_pinsAt hb e)))).2.1
  have t4 : tn 0 h₁ := T.keep _ _ _ st2 fun b hb o e => old b o e
  refine codeAny_compStart_list (loop _ (I4 _) hacc t4) (T.self _ 0 _ _ _ t4 (loop _ (I4 _) hacc t4))
end
end L2
end
section
set_option Elab.async false
set_option linter.all false
set_option maxRecDepth 100000
namespace L2
open PySem PySem.Spec PyProof.Rows

/-! ### a text's signs -/
def Its (x : Str) : It := ⟨fun i _ => i < x.cps.size, fun i H v H' => H' = H ∧ ∃ c, x.cps[i]? = some c ∧ v = .str ⟨#[c]⟩, fun i _ => x.cps.size ≤ i⟩
theorem turn_str {P : Program} {w : World} {K : PySem.W.Frag} {tg : Expr} (it : Addr) (x : Str) (t : Tok) (ty : String) (hty : ty = "str_ascii_iterator" ∨ ty = "str_iterator") : Turn P w K tg (Its x) [it] it (fun i h => h.IsStrIter it ty x t i) where
  mem := by simp
  obj := fun i h st b hb => by
    have e : b = it := by simpa using hb
    subst e
    obtain ⟨o, e, c, d⟩ := st
    exact ⟨o, e, fun v z => by rw [d] at z; cases z⟩
  keep := fun i h h' st k => by
    obtain ⟨o, e, r⟩ := st
    exact ⟨o, k it (by simp) o e, r⟩
  item := by
    intro X hP hw hK hc i pins s σ H E I hf st hg
    subst hP hw hK
    obtain ⟨f0, f1, f2, f3, f4, f5⟩ := hf it (by simp)
    have hlt : i < x.cps.size := hg
    have hx : x.cps[i]? = some x.cps[i] := by simp [hlt]
    have fin : ∀ h', h'.IsStrIter it ty x t (i + 1) → Heap.SameBut it s.heap h' → ∃ u, some (Value.str ⟨#[x.cps[i]]⟩ s.toks) = some u ∧
      wpAny (model X.prog X.w) X.A (letOwnedTupleGo tg (.ref it) u) (fun _ s2 => ∃ y H', Inv X pins σ H' s2 ∧ RelV y u ∧ (Its x).yld i H y H' ∧ s2.heap.IsStrIter it ty x t (i + 1) ∧ ∀ b ∈ [it], H' b = none) E { s with heap := h', toks := s.toks + 1 } := fun h' st' sb => by
      have I1 : Inv X pins σ H { s with heap := h', toks := s.toks + 1 } := I.turned (fun b o hb e => (sb.2 b hb).trans e) f0 f1 f3 f4 f5
      obtain ⟨o, e, c, d⟩ := id st'
      refine ⟨_, rfl, go_of (s := { s with heap := h', toks := s.toks + 1 }) (n := ty) e c d ?_ ⟨.str ⟨#[x.cps[i]]⟩, H, I1, ⟨_, rfl⟩, ⟨rfl, _, hx, rfl⟩, st', fun b hb => (hf b hb).1⟩⟩
      rcases hty with rfl | rfl <;> decide
    rcases hty with rfl | rfl
    · exact wpAny_pyNext_ascii_item st hx fin
    · exact wpAny_pyNext_wide_item st hx fin
  done := by
    intro X hP hw hK hc i pins s σ H E I hf st hg
    subst hP hw hK
    obtain ⟨f0, f1, f2, f3, f4, f5⟩ := hf it (by simp)
    have hx : x.cps[i]? = none := by
      have : x.cps.size ≤ i := hg
      simpa using this
    have fin : ∀ h', Heap.ExtBut it s.heap h' → (none : Option Value) = none ∧ Inv X pins σ H { s with heap := h' } := fun h' eb => ⟨rfl, I.turned (t' := s.toks) (fun b o hb e => eb b o hb e) f0 f1 f3 f4 f5⟩
    rcases hty with rfl | rfl
    · exact wpAny_pyNext_ascii_end (I.ok.hd hc) st hx fin
    · exact wpAny_pyNext_wide_end (I.ok.hd hc) st hx fin
  self := fun _ _ _ _ _ st h => by
    rcases hty with rfl | rfl
    · exact wpAny_pyIter_striter_ascii st h
    · exact wpAny_pyIter_striter_wide st h
def iStr (tl : TE) : TI := fun σ H R => tl σ H fun v H1 => ∃ x, v = .str x ∧ R (Its x) H1
section
variable {X : Cx} {tg : Expr}
theorem pi_str {l : Expr} {tl : TE} (hl : PE X l tl) : PI X tg l (iStr tl) := by
  intro pins s σ H R I h
  refine thn (hl pins s σ H _ I h) fun v s1 ⟨y, H1, I1, r1, q1⟩ => ?_
  obtain ⟨x, rfl, q⟩ := q1
  obtain ⟨t, rfl⟩ := r1
  refine wpAny_pyIter_strU ?_
  refine ⟨s1.heap.objs.size, [s1.heap.objs.size], _, _, H1, rfl, I1.kept (t' := s1.toks) fun b o e => Heap.get?_push_of_some _ e, turn_str _ x t (strIterType x) (by unfold strIterType; split <;> simp), ⟨_, Heap.get?_push_size _ rfl, rfl, rfl⟩, fun b hb => ?_, q⟩
  have e : b = s1.heap.objs.size := by simpa using hb
  subst e
  exact I1.fpOk (Nat.le_refl _) (I1.hok.fresh (Nat.le_refl _))

/-! ### all, any of a list of bools -/
theorem bools_of : ∀ {bs : List Bool} {us : List Value}, Vals (bs.map V.bl) us → us = bs.map Value.bool
  | [], _, r => by cases r; rfl
  | b :: bs, _, r => by
    rw [List.map_cons] at r
    cases r with
    | cons r1 r2 =>
      have e : _ = Value.bool b := r1
      rw [e, bools_of r2, List.map_cons]
theorem call_all (hc : X.calm = true) : CallR X (.builtin "all") (fun xs H Q => ∃ (p : Addr) (bs : List Bool), xs = [.ref p] ∧ SqL X.K H p (bs.map V.bl) ∧ Q (.bl (bs.all id)) H) := by
  intro pins s σ H xs us Q I r h
  obtain ⟨p, bs, rfl, hq, q⟩ := h
  obtain ⟨u, rfl, rx⟩ := vals1 r
  cases rx
  obtain ⟨its, rv, pl, hz⟩ := I.list hq
  obtain rfl := bools_of rv
  have hl := pl.isList
  have hlt : p < s.heap.objs.size := by obtain ⟨_, e, _⟩ := hl; exact Heap.lt_size e
  refine call_all_walk (wpAny_pyIter_list hl ?_)
  refine ⟨s.heap.objs.size, [s.heap.objs.size, p], [s.heap.objs.size], (bs.map Value.bool).toArray.size, _, _, fun i => (bs[i]?).getD true, rfl, Walks.list (A := X.A.in1) (I.ok.hd hc) _ p (Nat.ne_of_lt hlt) _,
    ⟨⟨_, Heap.get?_push_size _ rfl, rfl, rfl⟩, hl.push _⟩, fun i v s' Q' E' hP hQ => ?_, fun h' tk hk => ?_⟩
  · have hP' : (bs.map Value.bool)[i]? = some v := by simpa using hP
    rw [List.getElem?_map] at hP'
    cases e : bs[i]? with
    | none => rw [e] at hP'; cases hP'
    | some b =>
      rw [e] at hP'
      obtain rfl : Value.bool b = v := Option.some.inj hP'
      simp only [e, Option.getD_some] at hQ
      exact wpAny_truthy_bool hQ
  · have e : ((List.range (bs.map Value.bool).toArray.size).all fun i => (bs[i]?).getD true) = bs.all id := by
      rw [List.size_toArray, List.length_map]; exact LSm.range_all bs
    rw [e]
    exact ⟨.bl _, H, I.kept (t' := tk) (LSm.kept_iter hk), rfl, q⟩

/-! ### isinstance -/
theorem call_isinst : CallR X (.builtin "isinstance") (fun xs H Q => ∃ (x : V) (t : Value) (c : String) (b : Bool), xs = [x, .ty c] ∧ TyOf X.K H x t ∧ PySem.W.kitOne X.K t (.type c) = some b ∧ Q (.bl b) H) := by
  intro pins s σ H xs us Q I r h
  obtain ⟨x, t, c, b, rfl, ty, e, q⟩ := h
  obtain ⟨u, v, rfl, r1, r2⟩ := vals2 r
  cases r2
  exact isinst_ok I r1 ty e fun tk => ⟨.bl b, H, I.tok _, rfl, q⟩

/-! ### texts -/
theorem sl_str : SlR X (fun x lo hi H Q => ∃ z : Str, x = .str z ∧ z.length ≤ sizeLine ∧ Q (.str (Txt.slice z lo hi)) H) := by
  intro pins s σ H x v vl vu lo hi sl Q I rx hs pl pu h
  obtain ⟨z, rfl, hz, q⟩ := h
  obtain ⟨t, rfl⟩ := rx
  have fin : ∀ t' k, EP X pins σ Q (.str (Txt.slice z lo hi) t') { s with toks := k } := fun t' k => ⟨.str _, H, I.tok _, ⟨_, rfl⟩, q⟩
  refine ⟨"str", _, F.slot_str_getitem.lookup, typeIs_str _ _ _, ?_⟩
  cases pl <;> cases pu
  · exact wpAny_getItem_str_slice (l := none) (u := none) (st := none) hs rfl (post_val_or_str ⟨Nat.le_trans (Txt.slice_le z _ _) hz, fin⟩)
  · rename_i j tj
    exact wpAny_getItem_str_slice (l := none) (u := some (j, tj)) (st := none) hs rfl (post_val_or_str ⟨Nat.le_trans (Txt.slice_le z _ _) hz, fin⟩)
  · rename_i j tj
    exact wpAny_getItem_str_slice (l := some (j, tj)) (u := none) (st := none) hs rfl (post_val_or_str ⟨Nat.le_trans (Txt.slice_le z _ _) hz, fin⟩)
  · rename_i j tj k tk
    exact wpAny_getItem_str_slice (l := some (j, tj)) (u := some (k, tk)) (st := none) hs rfl (post_val_or_str ⟨Nat.le_trans (Txt.slice_le z _ _) hz, fin⟩)
theorem mt_upper : MtR X "str.upper" (fun x xs H Q => ∃ z : Str, x = .str z ∧ xs = [] ∧ z.length ≤ 5592405 ∧ ((Txt.upper z).length ≤ 3 * z.length → Q (.str (Txt.upper z)) H)) := by
  intro pins s σ H x xs v us Q I rx rs h
  obtain ⟨z, rfl, rfl, hz, q⟩ := h
  obtain ⟨t, rfl⟩ := rx
  cases rs
  exact SCL.upper hz fun hl => ⟨.str _, H, I.tok _, ⟨_, rfl⟩, q hl⟩
theorem strs_of : ∀ {ts : List Str} {us : List Value}, Vals (ts.map V.str) us → ∃ l : List (Str × Tok), us = strValues l ∧ l.map (·.1) = ts
  | [], _, r => by cases r; exact ⟨[], rfl, rfl⟩
  | x :: ts, _, r => by
    rw [List.map_cons] at r
    cases r with
    | cons r1 r2 =>
      obtain ⟨t, e⟩ := (show ∃ t, _ = Value.str x t from r1)
      obtain ⟨l, e1, e2⟩ := strs_of r2
      exact ⟨(x, t) :: l, by rw [e, e1]; rfl, by rw [List.map_cons, e2]⟩
theorem mt_join : MtR X "str.join" (fun x xs H Q => ∃ (z : Str) (p : Addr) (ts : List Str), x = .str z ∧ xs = [.ref p] ∧ SqL X.K H p (ts.map V.str) ∧ JoinOk z ts = true ∧ Q (.str (Txt.join z ts)) H) := by
  intro pins s σ H x xs v us Q I rx rs h
  obtain ⟨z, p, ts, rfl, rfl, hq, hj, q⟩ := h
  obtain ⟨t, rfl⟩ := rx
  obtain ⟨u, rfl, ru⟩ := vals1 rs
  cases ru
  obtain ⟨its, rv, pl, hz⟩ := I.list hq
  obtain ⟨l, rfl, e⟩ := strs_of rv
  exact SC.join pl.isList e hj fun t' k => ⟨.str _, H, I.tok _, ⟨_, rfl⟩, q⟩

/-! ### != of two tuples of flat items -/
def eqL : List V → List V → Bool
  | [], [] => true
  | x :: xs, y :: ys => eqV x y && eqL xs ys
  | _, _ => false
theorem op_neT (hu : X.A.units < cLine) : OpR X (compareOp .NotEq) (fun x y H Q => ∃ (p q : Addr) (xs ys : List V), x = .ref p ∧ y = .ref q ∧ SqT X.K H p xs ∧ SqT X.K H q ys ∧ xs.all flatV = true ∧ ys.all flatV = true ∧ xs.length = ys.length ∧ Q (.bl (!eqL xs ys)) H) := by
  intro pins s σ H x y v u Q I rx ry h
  obtain ⟨p, q, xs, ys, rfl, rfl, hp, hq, fx, fy, hl, hQ⟩ := h
  cases rx; cases ry
  obtain ⟨us, r1, t1, z1⟩ := I.tuple hp
  obtain ⟨ws, r2, t2, z2⟩ := I.tuple hq
  have key : ∀ (xs ys : List V) (us ws : List Value), Vals xs us → Vals ys ws → xs.all flatV = true → ys.all flatV = true → xs.length = ys.length →
      ∃ e : Nat → Bool, (∀ j (h1 : j < us.length) (h2 : j < ws.length), SeqAt.EqAt X.A.in1 s us[j] ws[j] (e j)) ∧ (List.range us.length).all e = eqL xs ys := by
    intro xs
    induction xs with
    | nil =>
      intro ys us ws r1 r2 _ _ hl
      cases r1
      cases ys with
      | nil => exact ⟨fun _ => true, fun j h1 => absurd h1 (Nat.not_lt_zero _), rfl⟩
      | cons => cases hl
    | cons x xs ih =>
      intro ys us ws r1 r2 f1 f2 hl
      cases ys with
      | nil => cases hl
      | cons y ys =>
        cases r1 with
        | cons a1 b1 =>
          cases r2 with
          | cons a2 b2 =>
            rw [List.all_cons, Bool.and_eq_true] at f1 f2
            obtain ⟨e, h1, h2⟩ := ih ys _ _ b1 b2 f1.2 f2.2 (Nat.succ.inj hl)
            refine ⟨fun j => match j with | 0 => eqV x y | j + 1 => e j, fun j g1 g2 => ?_, ?_⟩
            · cases j with
              | zero => exact eqAt_V a1 a2 f1.1 f2.1
              | succ j => exact h1 j (Nat.lt_of_succ_lt_succ g1) (Nat.lt_of_succ_lt_succ g2)
            · rw [List.length_cons, List.range_succ_eq_map, List.all_cons, List.all_map]
              show (eqV x y && _) = (eqV x y && eqL xs ys)
              rw [← h2]
              rfl
  obtain ⟨e, h1, h2⟩ := key xs ys us ws r1 r2 fx fy hl
  refine EqBoolInt.of_rcne (SeqAt.RcNeAt.tuples (items := us.toArray) (items2 := ws.toArray) (e := e) t1 t2 hu fun j g1 g2 => by simpa using h1 j (by simpa using g1) (by simpa using g2)) ⟨.bl _, H, I, ?_, hQ⟩
  have hlen : us.length = ws.length := by rw [← r1.length, ← r2.length]; exact hl
  rw [← h2]
  simp [hlen]
  rfl
end
end L2
end
section
set_option Elab.async false
set_option linter.all false
set_option maxRecDepth 100000
namespace L2
open PySem PySem.Spec PyProof.Rows
section
variable {X : Cx}
/-- name = [elt for x in iter], on one row: the name is bound ahead of the block's end -/
theorem ps_setC {i : Nat} {y : Str} {py spos : Pos} {elt iter : Expr} {x : Str} {px pos : Pos} {scope : Scope} {cl : List (Str × Addr)} {cn : List Str} {caps : List Nat} {wi : TI} {te : TE}
    (hN : X.N.Nodup) (hi' : X.N[i]? = some y) (hy : Loc X.env.scope y)
    (hc : X.calm = true) (hi : PI X (.Name x px) iter wi) (cp : Caps X scope x cl cn caps) (he : ∀ C ex s H, PE (cxComp X (x :: cn) scope cl C ex s H) elt te)
    (hsw : swapsWith (.ListComp elt [⟨.Name x px, iter, [], 0⟩] scope pos) (some (.Name y py)) spos.line X.env = pure true := by rfl)
    (hs : ∀ x, foldedSetIterable iter X.env x = pure x := by intro _; rfl) (hf : X.fn y = true ∨ X.env.scope.names.lookup y = some .local := by first | exact .inl rfl | exact .inr rfl | assumption) :
    PS X (.Assign [.Name y py] (.ListComp elt [⟨.Name x px, iter, [], 0⟩] scope pos) spos) (tAsg (tComp caps wi te) (gName i)) := by
  intro pins s σ H Dn I h
  rw [exec_Assign_Name_used _ _ _ _ hsw]
  refine wpAny_bind (wpAny_standAt (wpAny_bind ?_))
  show wpAny _ X.A (do let _ ← comprehension (.ListComp elt [⟨.Name x px, iter, [], 0⟩] scope pos) scope X.env _ (newList []) false (eval iter X.env) (some (assign (.Name y py) X.env))) _ _ s
  refine wpAny_bind (wpAny_mono (wpAny_comprehension_free (use := some (assign (.Name y py) X.env)) (Q := fun _ s' => SP X pins Dn .next s') rfl hs cp.clos cp.kind cp.names
    (thn (hi pins s σ H _ I h) fun v s1 h1 => thn h1 fun itv s2 h2 => ?_)) (fun _ s' hq => wpAny_pure (wpAny_pure hq)) fun _ _ e => e)
  obtain ⟨it, fp, tn, J, H2, e, I2, T, st2, f2, n, W, hn, w0, turn⟩ := h2
  subst e
  refine wpAny_newObj_type (wpAny_newFunctionEnv cp.cell (by intro y hy; simp at hy) (fun h₁ hns₁ hsb₁ => ?_) cp.kind)
  dsimp only at hns₁ hsb₁ ⊢
  generalize hG : s2.heap.push { cls := .type "list", dict := none, data := .seq ([] : List Value).toArray } = G at hns₁ hsb₁ ⊢
  have hC : G.objs.size = s2.heap.objs.size + 1 := by rw [← hG, Heap.size_push]
  generalize hCe : G.objs.size = C at hns₁ hsb₁ hC ⊢
  generalize hDe : s2.heap.objs.size = D at hC ⊢
  have hDC : D ≠ C := by rw [hC]; exact Nat.ne_of_lt (Nat.lt_succ_self _)
  have below : ∀ b, b < D → b ≠ C ∧ b ≠ D := fun b hb => ⟨by rw [hC]; exact Nat.ne_of_lt (Nat.lt_succ_of_lt hb), Nat.ne_of_lt hb⟩
  have old : ∀ b o, s2.heap.get? b = some o → h₁.get? b = some o := fun b o e => hsb₁.extBut b o (below b (hDe ▸ Heap.lt_size e)).1 (Heap.get?_push_of_some _ (hG ▸ Heap.get?_push_of_some _ e))
  have hacc : h₁.get? D = some (listO [] 0) := hsb₁.extBut _ _ hDC (Heap.get?_push_of_some _ (by rw [← hG, ← hDe]; exact Heap.get?_push_size _ rfl))
  have fpl : ∀ b ∈ fp, b < D := fun b hb => by
    obtain ⟨o, e, _⟩ := T.obj _ _ st2 b hb
    exact hDe ▸ Heap.lt_size e
  have hDs : s2.heap.objs.size ≤ D := Nat.le_of_eq hDe
  have hCs : s2.heap.objs.size ≤ C := by omega
  have fsN : ∀ {b}, b ≠ X.env.locals → b ∉ X.fs → b ∉ frs X.stack := fun {b} h1 h2 z => (List.mem_cons.mp (I2.stkSub b z)).elim h1 h2
  have big : ∀ {a}, s2.heap.objs.size ≤ a → a ∉ frs X.stack := fun {a} ha => fsN (Nat.ne_of_gt (Nat.lt_of_lt_of_le I2.lt ha)) (I2.nofs ha)
  have cellLt : ∀ y c, cl.lookup y = some c → c < D := fun y c e => by
    obtain ⟨v, q⟩ := I2.cell y c (cp.sub y c e)
    exact hDe ▸ q.lt
  -- the inner context
  have ok : (cxComp X (x :: cn) scope cl C fp s2 H2).Ok := by
    refine ⟨I2.ok.mod, cp.kind, I2.ok.glob, I2.ok.blt, hCs, fun y z c h1 h2 => I2.ok.inj y z c (cp.sub y c h1) (cp.sub z c h2), fun y hy => cp.has y hy, fun y c hf => (by cases hf), I2.ok.hd, I2.ok.frames, .inl rfl, fun b hb => ?_, I2.bs, Nat.le_trans I2.ok.bsz I2.sz, fun b o e hb => ?_, fun b hb => ?_, I2.stack, I2.stkFree⟩
    · exact ⟨(below b (fpl b hb)).1, fun y c e => (f2 b hb).2.2.2.2.1 y c (cp.sub y c e)⟩
    · obtain ⟨_, _, _, q, _⟩ := f2 b hb
      rcases q with q | q
      · exact I2.ok.noex b o e q
      · exact absurd (Nat.lt_of_lt_of_le (Heap.lt_size (I2.ok.bs b o e).1) q) (Nat.lt_irrefl _)
    · exact fsN (f2 b hb).2.1 (f2 b hb).2.2.1
  have stat : ∀ {us : List Value} {nn : Nat} {H' : Hp}, (∀ b ∈ fp, H' b = none) → ∀ b ∈ fp, FpOk (cxComp X (x :: cn) scope cl C fp s2 H2) [(D, listO us nn)] H' b := fun {us nn H'} hn b hb =>
    ⟨hn b hb, (below b (fpl b hb)).1, fsN (f2 b hb).2.1 (f2 b hb).2.2.1, .inl hb, fun y c e => (f2 b hb).2.2.2.2.1 y c (cp.sub y c e), fun p hp => by
      obtain rfl : p = (D, listO us nn) := by simpa [cxComp] using hp
      exact (below b (fpl b hb)).2.symm⟩
  -- one pin more: the list
  have pinD : ∀ {σ' : St} {H' : Hp} {s' : Shared} {us : List Value} {nn : Nat}, Inv (cxComp X (x :: cn) scope cl C fp s2 H2) [] σ' H' s' → H' D = none → s'.heap.get? D = some (listO us nn) → Inv (cxComp X (x :: cn) scope cl C fp s2 H2) [(D, listO us nn)] σ' H' s' := fun {σ' H' s' us nn} J hn e =>
    J.pins_of fun p hp => by
      obtain rfl : p = (D, listO us nn) := by simpa using hp
      exact ⟨e, hn, hDC, big hDs, fun v z => by cases z⟩
  have I4 : ∀ tk, Inv (cxComp X (x :: cn) scope cl C fp s2 H2) [] (none :: capsOf caps σ) H2 { s2 with heap := h₁, toks := tk } := fun tk => by
    refine ⟨ok, rfl, I2.bare, Un.kept old, ⟨_, hns₁, fun i y v h1 h2 h3 => ?_⟩, fun y c e => ?_, I2.hok.fresh hCs, fun y c e => I2.freeC y c (cp.sub y c e), fun p hp => absurd (show p ∈ ([] : List (Addr × Obj)) from hp) (by simp), I2.hok.kept old, ?_⟩
    · cases i with
      | zero => simp at h2
      | succ k =>
        have h1' : cn[k]? = some y := by simpa [cxComp] using h1
        obtain ⟨j, ej, eN, vis, kd, kd'⟩ := cp.cap k y h1'
        have h2' : σ[j]? = some (some v) := by
          have q : (capsOf caps σ)[k]? = some (some v) := by simpa using h2
          unfold capsOf at q
          rw [List.getElem?_map, ej] at q
          have q' : (σ[j]?).getD none = some v := by simpa using q
          cases eσ : σ[j]? with
          | none => rw [eσ] at q'; cases q'
          | some z => rw [eσ] at q'; rw [show z = some v from q']
        obtain ⟨m, hm, hl⟩ := I2.loc
        obtain ⟨u, ru, lk⟩ := hl j y v eN h2' vis
        refine ⟨u, ru, ?_⟩
        obtain ⟨c, ec⟩ := cp.has y kd'
        rcases lk with ⟨k1, _⟩ | ⟨_, c', ec', z⟩
        · rcases kd with kd | kd <;> (rw [kd] at k1; cases k1)
        · have : c = c' := Option.some.inj ((cp.sub y c ec).symm.trans ec')
          subst this
          obtain ⟨o, ho, hd⟩ := z
          exact .inr ⟨kd', c, ec, ⟨o, old c o ho, hd⟩⟩
    · obtain ⟨v, o, ho, hd⟩ := I2.cell y c (cp.sub y c e)
      exact ⟨v, o, old c o ho, hd⟩
    · show _ = (x :: cn).length
      simp [capsOf, cp.len]
  -- the loop
  have loop : ∀ s₃ : Shared, Inv (cxComp X (x :: cn) scope cl C fp s2 H2) [] (none :: capsOf caps σ) H2 s₃ → s₃.heap.get? D = some (listO [] 0) → tn 0 s₃.heap →
      codeAny (model X.prog X.w) X.A (.compLoop (.ListComp elt [⟨.Name x px, iter, [], 0⟩] scope pos) 0 (.ref it) (.ref D) (compEnvC scope cl C X.env))
        (compPost (model X.prog X.w) X.A X.xe (some (assign (.Name y py) X.env)) (fun _ s' => SP X pins Dn .next s') (.ref D) C) s₃ := by
    intro s₃ I3 e3 t3
    refine compLoop_any (fun k s' => ∃ (i : Nat) (zs : List V) (us : List Value) (nn : Nat) (H' : Hp), k = n + 1 - i ∧ i ≤ n ∧ Inv (cxComp X (x :: cn) scope cl C fp s2 H2) [(D, listO us nn)] (none :: capsOf caps σ) H' s' ∧ tn i s'.heap ∧ (∀ b ∈ fp, H' b = none) ∧ W i zs H' ∧ Vals zs us ∧ zs.length = i) ?_ (n + 1)
      ⟨0, [], [], 0, H2, rfl, Nat.zero_le _, pinD I3 (I2.hok.fresh hDs) e3, t3, fun b hb => (f2 b hb).1, w0, .nil, rfl⟩
    rintro k s' ⟨i, zs, us, nn, H', rfl, hin, I', st', fr', w', vs', hl⟩
    have pD := I'.pin (D, listO us nn) (List.mem_append_right _ (by simp))
    rcases turn i zs H' w' with ⟨stop, fin⟩ | ⟨go, hlt, step⟩
    · refine thn (T.done (cxComp X (x :: cn) scope cl C fp s2 H2) rfl rfl rfl hc i _ s' _ H' (fun _ _ => False) I' (stat fr') st' stop) fun r s4 ⟨hr, I4'⟩ => ?_
      subst hr
      obtain ⟨m, hm, _⟩ := id I4'.loc
      obtain ⟨h', hs', eh⟩ : ∃ h', Heap.SameBut C s4.heap h' ∧ h' = s4.heap := ⟨s4.heap, Heap.SameBut.refl _ _, rfl⟩
      obtain ⟨e4, n4, _, _, _⟩ := I4'.pin (D, listO us nn) (List.mem_append_right _ (by simp))
      have e4 : s4.heap.get? D = some (listO us nn) := e4
      have n4 : H' D = none := n4
      have nC : H' C = none := I4'.free
      have kk : ∀ b o, b ≠ C → s4.heap.get? b = some o → h'.get? b = some o := fun b o hb e => (hs'.2 b hb).trans e
      have un : Un (frs X.stack) fp H2 (upd H' D (.lst zs)) s2.heap h' := by
        have u := I4'.base
        have ne : ∀ b o, s2.heap.get? b = some o → b ≠ C ∧ b ≠ D := fun b o e => below b (hDe ▸ Heap.lt_size e)
        refine ⟨fun b o e n0 hb hx => kk b o (ne b o e).1 (u.keep b o e n0 hb hx), fun b o e n0 hb hx => ?_, fun b o e n0 hx => ?_, fun b o e hx => ?_, fun b xs e => ?_, fun b o xs e => ?_, fun b ps e => ?_⟩
        · obtain ⟨sl, q⟩ := u.slot b o e n0 hb hx
          exact ⟨sl, kk b _ (ne b o e).1 q⟩
        · rw [upd_ne (ne b o e).2]; exact u.free b o e n0 hx
        · obtain ⟨o', q⟩ := u.there b o e hx
          exact ⟨o', kk b _ (ne b o e).1 q⟩
        · have q := u.tups b xs e
          rw [upd_ne (ne_of_none q n4)]; exact q
        · have q := u.frzs b o xs e
          rw [upd_ne (ne_of_none q n4)]; exact q
        · obtain ⟨more, q⟩ := u.tbls b ps e
          exact ⟨more, by rw [upd_ne (ne_of_none q n4)]; exact q⟩
      have hokD : HOk X.prog X.w (upd H' D (.lst zs)) h' := fun b o e => by
        by_cases hb : b = D
        · subst hb
          rw [upd_same] at e; cases e
          exact ⟨by omega, us, nn, vs', kk _ _ hDC e4⟩
        · rw [upd_ne hb] at e
          refine (I4'.hok b o e).stay (fun c v hcc q => kk c v ?_ q) (fun c q => ?_) fun c xs q => ?_
          · rintro rfl
            rcases hcc with z | z
            · rw [← z, nC] at e; cases e
            · rw [nC] at z; cases z
          · rw [upd_ne (ne_of_none q n4)]; exact q
          · rw [upd_ne (ne_of_none q n4)]; exact q
      have nCD : upd H' D (.lst zs) C = none := by rw [upd_ne (Ne.symm hDC)]; exact nC
      have fin1 : Inv X pins σ (upd H' D (.lst zs)) s4 := I2.call' (s' := s4) (ch := fp) I4'.os (eh ▸ un) (eh ▸ hokD) I4'.bare fun b hb => ⟨(f2 b hb).2.2.2.1, (f2 b hb).2.1, (f2 b hb).2.2.2.2.1, (f2 b hb).2.2.2.2.2⟩
      have lC : C ≠ X.env.locals := Nat.ne_of_gt (Nat.lt_of_lt_of_le I2.lt hCs)
      have cC : ∀ z c, X.env.cells.lookup z = some c → c ≠ C := fun z c e => by
        obtain ⟨v, q⟩ := I2.cell z c e
        exact Nat.ne_of_lt (Nat.lt_of_lt_of_le q.lt hCs)
      show wpAny _ X.A (assign (.Name y py) X.env (.ref D)) _ _ s4
      refine wpAny_assign_Name (store_ok2 fin1 hN hi' hy (v := .ref D) (u := .ref D) rfl (fun s' I' ⟨a, sb, ha⟩ => ?_) hf)
      have aC : a ≠ C := by
        rcases ha with rfl | ha
        · exact Ne.symm lC
        · exact cC _ _ ha
      refine ⟨m, hm.sameBut sb (Ne.symm aC), fun h5 hs5 => ⟨_, _, ?_, fin D n4⟩⟩
      exact Inv.turned (t' := s'.toks) I' (fun b o hb e => hs5.extBut b o hb e) nCD lC (.inr (Nat.le_trans I2.sz hCs)) cC fun p hp => by
        obtain ⟨e, _⟩ := I2.pin p hp
        exact Nat.ne_of_lt (Nat.lt_of_lt_of_le (Heap.lt_size e) hCs)
    · refine thn (T.item (cxComp X (x :: cn) scope cl C fp s2 H2) rfl rfl rfl hc i _ s' _ H' (fun _ _ => False) I' (stat fr') st' go) fun r s4 ⟨u, hr, h4⟩ => ?_
      subst hr
      refine thn h4 fun _ s5 ⟨y, H5, I5, r5, y5, st5, fr5⟩ => ?_
      have I5' := I5.pinned (stat fr5) (T.obj _ _ st5)
      refine thn ((pg_name (X := cxComp X (x :: cn) scope cl C fp s2 H2) (i := 0) cp.nd rfl (.inl (lookup_relabel_local cp.hx)) (.inr (lookup_relabel_local cp.hx))) _ s5 _ H5 y u (fun σ' H'' => σ' = some y :: capsOf caps σ ∧ H'' = H5) I5' r5 ⟨rfl, rfl⟩) fun _ s6 ⟨σ6, H6, I6, q6, q6'⟩ => ?_
      subst q6; subst q6'
      refine thn (he C fp s2 H2 _ s6 _ H6 _ I6 (step y H6 y5)) fun v7 s7 ⟨z, H7, I7, r7, w7⟩ => ?_
      obtain ⟨e7, n7, _, _, _⟩ := I7.pin (D, listO us nn) (List.mem_append_right _ (List.mem_append_left _ (by simp)))
      have e7 : s7.heap.get? D = some (listO us nn) := e7
      have n7 : H7 D = none := n7
      have hul : us.length = i := by rw [← vs'.length]; exact hl
      refine wpAny_list_append_plain (hsz := by rw [List.size_toArray]; omega) ⟨nn, e7⟩ fun h8 p8 sb8 => ?_
      obtain ⟨n8, e8⟩ := p8
      have e8 : h8.get? D = some (listO (us ++ [v7]) n8) := by rw [e8]; simp [listO]
      have I8 : Inv (cxComp X (x :: cn) scope cl C fp s2 H2) [] (some y :: capsOf caps σ) H7 { s7 with heap := h8 } :=
        Inv.turned (t' := s7.toks) (I7.pins_of fun p hp => absurd hp (by simp)) (fun b o hb e => (sb8.2 b hb).trans e) n7 hDC (.inr hDs) (fun y' c e => Nat.ne_of_lt (cellLt y' c e)) fun p hp => absurd (show p ∈ ([] : List (Addr × Obj)) from hp) (by simp)
      refine ⟨n + 1 - (i + 1), by omega, i + 1, zs ++ [z], us ++ [v7], n8, H7, rfl, hlt, ?_, ?_, fun b hb => ?_, w7, vs'.append (.cons r7 .nil), by rw [List.length_append, hl]; rfl⟩
      · refine pinD (I8.weak (by simp) fun j v e => ?_) n7 e8
        cases j with
        | zero => simp at e
        | succ j => simpa using e
      · refine T.keep _ _ _ st5 fun b hb o e => (sb8.2 b (below b (fpl b hb)).2).trans (I7.pin (b, o) (List.mem_append_right _ (List.mem_append_right _ (mem_pinsAt hb e)))).1
      · obtain ⟨o, e, d⟩ := T.obj _ _ st5 b hb
        exact (I7.pin (b, o) (List.mem_append_right _ (List.mem_append_right _ (mem_pinsAt hb e)))).2.1
  have t4 : tn 0 h₁ := T.keep _ _ _ st2 fun b hb o e => old b o e
  refine codeAny_compStart_list (loop _ (I4 _) hacc t4) (T.self _ 0 _ _ _ t4 (loop _ (I4 _) hacc t4))
end
end L2
end
section
set_option Elab.async false
set_option linter.all false
set_option maxRecDepth 100000
namespace HT
open PySem PySem.Spec PyProof.Rows
open AutoSeq1 (wpAny_loadPart')
theorem tuple_addW0 (l b : Addr) (items items2 : Array Value) (n n2 : Nat) (dd dd2 : Option Addr) (sl sl2 : Array (Option Value)) (hc0 : items.isEmpty = true) :
    Meets (Builtin.«tuple.__add__» ⟨[.ref l, .ref b], []⟩) (fun _ R s => s.heap.get? l = some { cls := .type "tuple", dict := dd, data := .seq items n, slots := sl } ∧ s.heap.get? b = some { cls := .type "tuple", dict := dd2, data := .seq items2 n2, slots := sl2 } ∧ R (.ok (.ret (Value.ref b))) { s with heap := s.heap, toks := s.toks }) :=
  .of_wp fun prog w A R s h => by obtain ⟨hp, g, d, tk, os⟩ := s; obtain ⟨hl, hb, h⟩ := h; have f1 := AutoSeq1.idx_int; have f2 := AutoSeq1.sub_tuple_tuple; have f3 := AutoSeq1.sub_list_list; have f4 := AutoSeq1.sub_tuple_list; have f5 := AutoSeq1.sub_list_tuple; wp_walk using wpAny_loadPart' hl, wpAny_loadPart' hb; exact ⟨_, rfl, h⟩
section
variable {prog : Program} {w : World} {A : Around} {E : Value → Shared → Prop} {s : Shared}
theorem cat_tup0 {t b : Addr} {ws : List Value} {Q : Value → Shared → Prop} (ht : IsTup s.heap t ([] : List Value).toArray) (hb : IsTup s.heap b ws.toArray)
    (h1 : Q (.ref b) s) : wpAny (model prog w) A (binaryOp .Add (.ref t) (.ref b)) Q E s := by
  obtain ⟨⟨cls, dd, data, sl⟩, ho, hc, n, hd⟩ := id ht
  obtain ⟨⟨cls2, dd2, data2, sl2⟩, ho2, hc2, n2, hd2⟩ := id hb
  simp only at hc hd hc2 hd2
  subst hc hd hc2 hd2
  exact concat_meets ⟨_, ho, rfl⟩ ⟨_, ho2, rfl⟩ noFill_tuple_add seq_tuple_add PySem.F.slot_tuple_add PySem.F.entry_tuple_add (PySem.F.args_tuple_add_2 _ _)
      (tuple_addW0 t b ([] : List Value).toArray ws.toArray n n2 dd dd2 sl sl2 rfl) ⟨ho, ho2, h1⟩
theorem getItem_tuple_whole {t sl : Addr} {items : Array Value} {vl vu : Value} {lo hi : Option Int} {Q : Value → Shared → Prop} (ht : IsTup s.heap t items) (hs : s.heap.IsSliceOf sl vl vu .none) (pl : IsPart vl lo) (pu : IsPart vu hi)
    (hw : sIx items.size 0 lo = 0 ∧ sIx items.size items.size hi = items.size)
    (h : Q (.ref t) s) : wpAny (model prog w) A (getItem (.ref t) (.ref sl)) Q E s := by
  obtain ⟨os, hos, hcs, hds⟩ := id hs
  have hTs : s.TypeIs (.ref sl) "slice" := ⟨os, hos, hcs⟩
  unfold getItem
  try with_reducible refine wpAny_holding ?_
  first | refine wpAny_bind (wpAny_pure ?_) | skip
  refine wpAny_bind (wpAny_sequenceKey ht.typeIs (by decide) ?_)
  refine wpAny_bind (wpAny_callSpecial?_slot (name := Str.ofString "__getitem__") ht.typeIs PyProof.Rows.slot_tuple_getitem
    (wpAny_call_entry PyProof.Rows.slot_tuple_getitem ht.typeIs entry_tuple_getitem ?_ (args_tuple_getitem _ _)))
  show wpAny _ _ (Builtin.Tuple.tupleItemsOf (.ref t) >>= _) _ _ s
  refine wpAny_bind (tupleItemsOf_ ht ?_)
  refine wpAny_bind (wpAny_typeOf hTs ?_)
  rw [if_pos (by decide)]
  refine wpAny_bind (sliceApplied_gen hs pl pu ?_)
  show wpAny _ _ (if (((sIx items.size 0 lo : Nat) : Int) == 0 && (1 : Int) == 1 && (sIx items.size items.size hi - sIx items.size 0 lo) == items.size) = true then _ else _) _ _ s
  rw [hw.1, hw.2]
  rw [if_pos (by simp)]
  refine wpAny_bind ?_
  show wpAny _ _ (do return (← typeOf (.ref t)) == .type "tuple") _ _ s
  refine wpAny_bind (wpAny_typeOf ht.typeIs (wpAny_pure ?_))
  rw [if_pos (by decide)]
  refine wpAny_bind (wpAny_rule ?_)
  first
    | exact wpAny_pure ⟨_, rfl, wpAny_pure h⟩
    | exact wpAny_bind (wpAny_pure (wpAny_pure ⟨_, rfl, wpAny_pure h⟩))
    | exact wpAny_bind (wpAny_bind (wpAny_pure (wpAny_pure ⟨_, rfl, wpAny_pure h⟩)))
    | exact wpAny_bind (wpAny_bind (wpAny_bind (wpAny_pure (wpAny_pure (wpAny_pure ⟨_, rfl, wpAny_pure h⟩)))))
    | exact wpAny_bind (wpAny_pure (wpAny_pure (wpAny_pure ⟨_, rfl, wpAny_pure h⟩)))
    | trace_state
end
end HT
namespace L2
open PySem PySem.Spec PyProof.Rows
section
variable {X : Cx}
/-- t + u of two tracked tuples, whatever they hold -/
def rCatA : R2 := fun x y H Q => ∃ a b xs ys, x = .ref a ∧ y = .ref b ∧ H a = some (.tup xs) ∧ H b = some (.tup ys) ∧ xs.length + ys.length ≤ sizeLine ∧ ∀ p H', H' p = some (.tup (xs ++ ys)) → Same H H' → Q (.ref p) H'
theorem op_catA : OpR X (binaryOp .Add) rCatA := by
  intro pins s σ H x y v u Q I rx ry h
  obtain ⟨a, b, xs, ys, rfl, rfl, ha, hb, hz, q⟩ := h
  by_cases hx : xs = []
  · subst hx
    cases rx
    cases ry
    obtain ⟨its, r1, p1, _⟩ := I.tuple (SqT.of ha)
    obtain ⟨its2, r2, p2, _⟩ := I.tuple (SqT.of hb)
    cases r1
    exact HT.cat_tup0 p1 p2 ⟨.ref b, H, I, rfl, q b H hb (Same.refl H)⟩
  · refine op_catT pins s σ H _ _ v u Q I rx ry ⟨a, b, xs, ys, rfl, rfl, SqT.of ha, SqT.of hb, hx, hz, fun z => ?_, fun z p hp => ?_⟩
    · subst z
      exact q a H (by rw [List.append_nil]; exact ha) (Same.refl H)
    · exact q p _ upd_same fun c o e => by rw [upd_ne (ne_of_none e hp)]; exact e
/-- t[lo:hi] of a tracked tuple -/
def rSlA : V → Option Int → Option Int → Hp → VK → Prop := fun x lo hi H Q => ∃ a xs, x = .ref a ∧ H a = some (.tup xs) ∧ ∀ p H', H' p = some (.tup (cutV xs lo hi)) → Same H H' → Q (.ref p) H'
theorem sl_tupA : SlR X rSlA := by
  intro pins s σ H x v vl vu lo hi sl Q I rx hs pl pu h
  obtain ⟨a, xs, rfl, hx, q⟩ := h
  by_cases hw : HT.sIx xs.length 0 lo = 0 ∧ HT.sIx xs.length xs.length hi = xs.length
  · cases rx
    obtain ⟨its, r, ht, hz⟩ := I.tuple (SqT.of hx)
    have hlen : its.toArray.size = xs.length := by rw [List.size_toArray]; exact r.length.symm
    have hcut : cutV xs lo hi = xs := by
      unfold cutV
      rw [hw.1, hw.2]
      simp
    exact ⟨"tuple", _, PyProof.Rows.slot_tuple_getitem.lookup, ht.typeIs, HT.getItem_tuple_whole ht hs pl pu (by rw [hlen]; exact hw) ⟨.ref a, H, I, rfl, q a H (by rw [hcut]; exact hx) (Same.refl H)⟩⟩
  · exact sl_tup pins s σ H _ v vl vu lo hi sl Q I rx hs pl pu ⟨a, xs, rfl, SqT.of hx, hw, fun p hp => q p _ upd_same fun c o e => by rw [upd_ne (ne_of_none e hp)]; exact e⟩
theorem op_isB : OpR X (compareOp .Is) (fun x y H Q => ∃ t b, x = .bl t ∧ y = .bl b ∧ Q (.bl (t == b)) H) := by
  intro pins s σ H x y v u Q I rx ry h
  obtain ⟨t, b, rfl, rfl, q⟩ := h
  cases rx; cases ry
  exact is_bool ⟨.bl _, H, I, rfl, q⟩
theorem op_isNotB : OpR X (compareOp .IsNot) (fun x y H Q => ∃ t b, x = .bl t ∧ y = .bl b ∧ Q (.bl (t != b)) H) := by
  intro pins s σ H x y v u Q I rx ry h
  obtain ⟨t, b, rfl, rfl, q⟩ := h
  cases rx; cases ry
  exact isnot_bool ⟨.bl _, H, I, rfl, q⟩
end
end L2
end
section
set_option Elab.async false
set_option linter.all false
set_option maxRecDepth 100000
namespace L2
open PySem PySem.Spec PyProof.Rows
open AutoSeq1 (wpAny_loadPart')
theorem list_extendT (l : Addr) (items : Array Value) (n : Nat) (b : Addr) (items2 : Array Value) (n2 : Nat) (dd : Option Addr) (sl : Array (Option Value)) (hc0 : ¬(!items.isEmpty && Builtin.List.listTooLong (items.size + items2.size)) = true) (hc1 : items.size ≤ sizeLine) (hs2 : items.size + items2.size ≤ sizeLine + 1) :
    Meets (Builtin.«list.extend» ⟨[.ref l, .ref b], []⟩) (fun _ R s => s.heap.get? l = some { cls := .type "list", dict := none, data := .seq items n, slots := #[] } ∧ s.heap.get? b = some { cls := .type "tuple", dict := dd, data := .seq items2 n2, slots := sl } ∧ R (.ok (.ret Value.none)) { s with heap := s.heap.update l (Obj.mapSeq fun x => x ++ items2), toks := s.toks }) :=
  .of_wp fun prog w A R s h => by
    obtain ⟨hp, g, d, tk, os⟩ := s; obtain ⟨hl, hb, h⟩ := h; have f1 := AutoSeq1.idx_int; have f2 := AutoSeq1.sub_tuple_tuple; have f3 := AutoSeq1.sub_list_list; have f4 := AutoSeq1.sub_tuple_list; have f5 := AutoSeq1.sub_list_tuple;
    have hz' : (items ++ items2).size ≤ sizeLine + 1 := by rw [Array.size_append]; exact hs2
    wp_walk using (wpAny_updateSeq hl rfl (hz := hc1) (_hz' := hz')), wpAny_loadPart' hl, wpAny_loadPart' hb; exact ⟨_, rfl, h⟩
section
variable {X : Cx}
def rExtendT : V → List V → Hp → VK → Prop := fun x vs H Q => ∃ l b xs zs, x = .ref l ∧ vs = [.ref b] ∧ H l = some (.lst xs) ∧ H b = some (.tup zs) ∧ xs.length + zs.length ≤ sizeLine ∧ Q .non (upd H l (.lst (xs ++ zs)))
theorem mt_extendT : MtM X "list.extend" rExtendT := by
  intro pins s σ H x vs v us Q I rx rv h
  obtain ⟨l, b, xs, zs, rfl, rfl, hH, hB, hz, q⟩ := h
  cases rx
  obtain ⟨u, rfl, ru⟩ := rv.one
  cases ru
  obtain ⟨z, its, n, r, hl, e⟩ := I.lstM hH
  obtain ⟨its2, r2, ⟨⟨c2, dd2, d2, sl2⟩, e2, hc2, n2, hd2⟩, _⟩ := I.tuple (SqT.of hB)
  have hc2' : c2 = .type "tuple" := hc2
  have hd2' : d2 = .seq its2.toArray n2 := hd2
  subst hc2' hd2'
  have hl2 := r2.length
  have hsz : its.toArray.size + its2.toArray.size ≤ sizeLine := by rw [List.size_toArray, List.size_toArray]; omega
  have hlong : ¬ (!its.toArray.isEmpty && Builtin.List.listTooLong (its.toArray.size + its2.toArray.size)) = true := by
    rw [notLongL hsz, Bool.and_false]
    exact Bool.false_ne_true
  refine call_meets F.slot_list_extend ⟨_, e, rfl⟩ F.entry_list_extend (F.args_list_extend_2 _ _)
    (list_extendT l its.toArray n b its2.toArray n2 dd2 sl2 hlong (by rw [List.size_toArray]; omega) (by omega)) ⟨e, e2, ?_⟩
  refine ⟨.non, _, I.lset (its' := its ++ its2) hH e (by simp) (r.append r2) ?_, rfl, q⟩
  rw [List.length_append]
  omega
/-! ### enumerate(text) -/
/-- pairs (number, sign), each a new tuple -/
def Ite (x : Str) : It := ⟨fun i _ => i < x.cps.size, fun i H v H' => ∃ T c, x.cps[i]? = some c ∧ v = .ref T ∧ H T = none ∧ H' = upd H T (.tup [.int i, .str ⟨#[c]⟩]), fun i _ => i = x.cps.size⟩
/-- some records have turned, one tuple is new -/
theorem Inv.turnedN {pins : List (Addr × Obj)} {σ : St} {H : Hp} {s s' : Shared} {fp : List Addr} {T : Addr} {o : HO} (I : Inv X pins σ H s) (ho : s'.os = s.os) (hg : s'.gens = s.gens) (k : ∀ b u, b ∉ fp → s.heap.get? b = some u → s'.heap.get? b = some u)
    (hf : ∀ b ∈ fp, FpOk X pins H b) (hT : s.heap.objs.size ≤ T) (new : ObjOk X.prog X.w (upd H T o) s'.heap T o) : Inv X pins σ (upd H T o) s' := by
  have hn : H T = none := I.hok.fresh hT
  have nf : ∀ b u, H b = some u → b ∉ fp := fun b u e z => by
    have := (hf b z).1
    rw [this] at e; cases e
  refine I.call' (ch := fp) ho ?_ (fun b u e => ?_) (by rw [hg]; exact I.bare) fun b hb => ⟨(hf b hb).2.2.2.1, (hf b hb).2.1, (hf b hb).2.2.2.2.1, (hf b hb).2.2.2.2.2⟩
  · exact ⟨fun b u e _ _ hx => k b u hx e, fun b u e _ _ hx => ⟨u.slots, k b u hx e⟩, fun b u e n _ => by rw [upd_ne (Nat.ne_of_lt (Nat.lt_of_lt_of_le (Heap.lt_size e) hT))]; exact n, fun b u e hx => ⟨u, k b u hx e⟩,
      fun b xs e => by rw [upd_ne (ne_of_none e hn)]; exact e, fun b u xs e => by rw [upd_ne (ne_of_none e hn)]; exact e, fun b ps e => ⟨#[], by rw [upd_ne (ne_of_none e hn), e]; simp⟩⟩
  · by_cases hb : b = T
    · subst hb; rw [upd_same] at e; cases e; exact new
    · rw [upd_ne hb] at e
      refine (I.hok b u e).stay (fun c v hc q => k c v ?_ q) (fun c q => by rw [upd_ne (ne_of_none q hn)]; exact q) fun c xs q => by rw [upd_ne (ne_of_none q hn)]; exact q
      rcases hc with z | z
      · rw [z]; exact nf b u e
      · exact nf c _ z
theorem Inv.turnedF {pins : List (Addr × Obj)} {σ : St} {H : Hp} {s s' : Shared} {fp : List Addr} (I : Inv X pins σ H s) (ho : s'.os = s.os) (hg : s'.gens = s.gens) (k : ∀ b u, b ∉ fp → s.heap.get? b = some u → s'.heap.get? b = some u)
    (hf : ∀ b ∈ fp, FpOk X pins H b) : Inv X pins σ H s' := by
  have nf : ∀ b u, H b = some u → b ∉ fp := fun b u e z => by
    have := (hf b z).1
    rw [this] at e; cases e
  refine I.call' (ch := fp) ho ?_ (fun b u e => ?_) (by rw [hg]; exact I.bare) fun b hb => ⟨(hf b hb).2.2.2.1, (hf b hb).2.1, (hf b hb).2.2.2.2.1, (hf b hb).2.2.2.2.2⟩
  · exact ⟨fun b u e _ _ hx => k b u hx e, fun b u e _ _ hx => ⟨u.slots, k b u hx e⟩, fun b u e n _ => n, fun b u e hx => ⟨u, k b u hx e⟩,
      fun b xs e => e, fun b u xs e => e, fun b ps e => ⟨#[], by rw [e]; simp⟩⟩
  · refine (I.hok b u e).stay (fun c v hc q => k c v ?_ q) (fun c q => q) fun c xs q => q
    rcases hc with z | z
    · rw [z]; exact nf b u e
    · exact nf c _ z
abbrev enumP (x : Str) (i : Nat) (vals : Array Value) : Prop := ∃ t v, (∃ c u, x.cps[i]? = some c ∧ v = Value.str ⟨#[c]⟩ u) ∧ vals = #[.int i t, v]
abbrev enumSt (e it : Addr) (ty : String) (x : Str) (t : Tok) (i : Nat) (h : Heap) : Prop := (∃ old, IsEnum h e it i old) ∧ h.IsStrIter it ty x t i
theorem walks_enumS {P : Program} {w : World} {A : Around} (hh : A.handled = none) (e it : Addr) (ty : String) (x : Str) (t : Tok) (hty : ty = "str_ascii_iterator" ∨ ty = "str_iterator") (hei : e ≠ it) :
    WalksT P w A e [e, it] [e, it] x.cps.size (enumP x) (enumSt e it ty x t) (fun i T h => (∃ v, IsEnumOut h e it ((i : Int) + 1) v T) ∧ h.IsStrIter it ty x t (i + 1) ∧ T ≠ e ∧ T ≠ it) := by
  rcases hty with rfl | rfl
  · exact WalksT.enumerateD (Draws.strAscii (A := A.in1) hh it x t) e hei (by simpa using hei) (by simp)
  · exact WalksT.enumerateD (Draws.strWide (A := A.in1) hh it x t) e hei (by simpa using hei) (by simp)
theorem turn_enumS {P : Program} {w : World} {K : PySem.W.Frag} {es : List Expr} {kk : Nat} {pos : Pos} (e it : Addr) (x : Str) (t : Tok) (ty : String) (hty : ty = "str_ascii_iterator" ∨ ty = "str_iterator") (hei : e ≠ it) :
    Turn P w K (.Tuple es kk pos) (Ite x) [e, it] e (enumSt e it ty x t) where
  mem := by simp
  obj := fun i h st b hb => by
    obtain ⟨⟨old, he⟩, o, ho, c, d⟩ := st
    rcases List.mem_cons.mp hb with rfl | hb
    · exact ⟨_, he, fun v z => by cases z⟩
    · rw [List.mem_singleton.mp hb]
      exact ⟨o, ho, fun v z => by rw [d] at z; cases z⟩
  keep := fun i h h' st k => by
    obtain ⟨⟨old, he⟩, o, ho, r⟩ := st
    exact ⟨⟨old, k e (by simp) _ he⟩, o, k it (by simp) o ho, r⟩
  item := by
    intro X hP hw hK hc i pins s σ H E I hf st hg
    subst hP hw hK
    have W := walks_enumS (P := X.prog) (w := X.w) (A := X.A) (I.ok.hd hc) e it ty x t hty hei
    refine W.item i s _ _ hg st fun T vals h' tk hv hT tup mid kk1 => ?_
    obtain ⟨tt, v, ⟨c, u, ec, rfl⟩, rfl⟩ := hv
    refine ⟨.ref T, rfl, W.go es kk pos i T _ _ _ mid fun h2 st2 kk2 => ?_⟩
    have nT : T ∉ [e, it] := W.apart i T h' mid
    obtain ⟨oT, eT, cT, nT', dT⟩ := id tup
    have eT2 : h2.get? T = some oT := kk2 T oT nT eT
    refine ⟨.ref T, upd H T (.tup [.int i, .str ⟨#[c]⟩]), Inv.turnedN (s' := { s with heap := h2, toks := tk }) I rfl rfl (fun b u0 hb e0 => kk2 b u0 hb (kk1 b u0 hb e0)) hf hT ?_, rfl, ⟨T, c, ec, rfl, I.hok.fresh hT, rfl⟩, st2, fun b hb => ?_⟩
    · exact ⟨by show 2 ≤ _; rw [sizeLine_eq]; decide, [.int i tt, .str ⟨#[c]⟩ u], .cons ⟨_, rfl⟩ (.cons ⟨_, rfl⟩ .nil), oT, eT2, cT, nT', dT⟩
    · have nb : b ≠ T := fun z => by subst z; exact nT hb
      rw [upd_ne nb]
      exact (hf b hb).1
  done := by
    intro X hP hw hK hc i pins s σ H E I hf st hg
    subst hP hw hK
    have W := walks_enumS (P := X.prog) (w := X.w) (A := X.A) (I.ok.hd hc) e it ty x t hty hei
    have hle : i = x.cps.size := hg
    subst hle
    refine W.done s _ _ st fun h' tk kk1 => ⟨rfl, ?_⟩
    exact Inv.turnedF (s' := { s with heap := h', toks := tk }) I rfl rfl kk1 hf
  self := fun A i s Q E st h => by
    obtain ⟨⟨old, he⟩, _⟩ := st
    exact wpAny_pyIter_enum he h
def iEnumS (ta : TA) : TI := fun σ H R => ta σ H fun vs H1 => ∃ x : Str, vs = [.str x] ∧ R (Ite x) H1
theorem boot_enum : bootBuiltins "enumerate" = some (.type "enumerate") := by decide +kernel
theorem pi_enumS {a : Expr} {es : List Expr} {kk : Nat} {tpos : Pos} {ta : TA} {p pos : Pos} (hg : Gl X "enumerate") (hm : X.mg "enumerate" = none) (ha : PA X [a] ta) (hs : starEach [a] X.env = [(false, eval a X.env)] := by rfl) :
    PI X (.Tuple es kk tpos) (.Call (.Name "enumerate" p) [a] [] pos) (iEnumS ta) := by
  intro pins s σ H R I h
  refine Call_ (ld_blt I hg hm boot_enum (PyProof.Rows.callWith_type1 (thn (ha pos pins s σ H _ I h) fun us s1 ⟨vs, H1, I1, r1, q1⟩ => ?_) hs rfl))
  obtain ⟨x, e, q⟩ := q1
  subst e
  cases r1 with
  | cons r rr =>
    cases rr
    obtain ⟨t, rfl⟩ := r
    refine call_enumerate_str fun h' he hit hz hk => ?_
    refine wpAny_pyIter_enum he ?_
    have I2 : Inv X pins σ H1 { s1 with heap := h' } := I1.kept (t' := s1.toks) hk
    have fresh : ∀ b, s1.heap.objs.size ≤ b → FpOk X pins H1 b := fun b hb => I1.fpOk hb (I1.hok.fresh hb)
    refine ⟨s1.heap.objs.size + 1, [s1.heap.objs.size + 1, s1.heap.objs.size], _, Ite x, H1, rfl, I2, turn_enumS _ _ x t (strIterType x) ?_ (Nat.succ_ne_self _), ⟨⟨_, he⟩, hit⟩, fun b hb => ?_, q⟩
    · unfold strIterType
      split
      · exact .inl rfl
      · exact .inr rfl
    · rcases List.mem_cons.mp hb with rfl | hb
      · exact fresh _ (Nat.le_succ _)
      · rw [List.mem_singleton.mp hb]; exact fresh _ (Nat.le_refl _)
end
end L2
end
section
set_option Elab.async false
set_option linter.all false
set_option maxRecDepth 100000
namespace L2
open PySem PySem.Spec PyProof.Rows
open AutoSeq1 (wpAny_loadPart')
section
variable {prog : Program} {w : World} {A : Around} {E : Value → Shared → Prop} {s : Shared}
theorem nextOf_tuple_item {it t : Addr} {i : Nat} {items : Array Value} {x : Value} {Q : Value → Shared → Prop} (hit : s.heap.IsTupleIter it t i)
    (ht : s.heap.IsTuple t items) (hx : items[i]? = some x)
    (hQ : ∀ h', h'.IsTupleIter it t (i + 1) → Heap.SameBut it s.heap h' → Q x { s with heap := h' }) :
    wpAny (model prog w) A (Builtin.SmallTypes.nextOf (.ref it)) Q E s := by
  obtain ⟨o, ho, hc, hd⟩ := id hit
  obtain ⟨ol, hol, _, nl, hdl⟩ := ht
  unfold Builtin.SmallTypes.nextOf
  refine wpAny_bind (wpAny_callSpecial?_slot (name := Str.ofString "__next__") hit.typeIs F.slot_tuple_iterator_next
    (wpAny_call_entry F.slot_tuple_iterator_next hit.typeIs F.entry_tuple_iterator_next ?_ (F.args_tuple_iterator_next_1 _)))
  show wpAny _ _ (field (.ref it) 0 >>= _) _ _ s
  refine wpAny_bind (wpAny_field ho hd (x := .ref t) rfl ?_)
  show wpAny _ _ (if (Value.ref t == Value.none) = true then _ else _) _ _ s
  rw [if_neg (show ¬ ((Value.ref t == Value.none) = true) from Bool.false_ne_true)]
  show wpAny _ _ (field (.ref it) 1 >>= _) _ _ s
  refine wpAny_bind (wpAny_field ho hd (x := .int i 0) rfl ?_)
  show wpAny _ _ (seqItems? (.ref t) >>= _) _ _ s
  refine wpAny_bind (wpAny_seqItems hol hdl ?_)
  simp only [Int.toNat_natCast, hx]
  refine wpAny_bind (wpAny_setField ho hd (by simp) (wpAny_pure ⟨x, rfl, wpAny_pure (hQ _ ?_ (Heap.SameBut.update ..))⟩))
  exact ⟨_, Heap.get?_update_self _ ho (Obj.isFreed_of_fields (Obj.data_mapFields hd _)), (Obj.cls_mapFields ..).trans hc, by
    rw [Obj.data_mapFields hd]; simp [rawInt]⟩
theorem nextOf_tuple_end {it t : Addr} {i : Nat} {items : Array Value} {Q : Value → Shared → Prop} (hh : A.handled = none)
    (hit : s.heap.IsTupleIter it t i) (ht : s.heap.IsTuple t items) (hx : items[i]? = none)
    (hE : ∀ h' e, Heap.ExtBut it s.heap h' → (∃ o, h'.get? e = some o ∧ o.cls = .type "StopIteration") → E (.ref e) { s with heap := h' }) :
    wpAny (model prog w) A (Builtin.SmallTypes.nextOf (.ref it)) Q E s := by
  obtain ⟨o, ho, hc, hd⟩ := id hit
  obtain ⟨ol, hol, _, nl, hdl⟩ := ht
  unfold Builtin.SmallTypes.nextOf
  refine wpAny_bind (wpAny_callSpecial?_slot (name := Str.ofString "__next__") hit.typeIs F.slot_tuple_iterator_next
    (wpAny_call_entry F.slot_tuple_iterator_next hit.typeIs F.entry_tuple_iterator_next ?_ (F.args_tuple_iterator_next_1 _)))
  show wpAny _ _ (field (.ref it) 0 >>= _) _ _ s
  refine wpAny_bind (wpAny_field ho hd (x := .ref t) rfl ?_)
  show wpAny _ _ (if (Value.ref t == Value.none) = true then _ else _) _ _ s
  rw [if_neg (show ¬ ((Value.ref t == Value.none) = true) from Bool.false_ne_true)]
  show wpAny _ _ (field (.ref it) 1 >>= _) _ _ s
  refine wpAny_bind (wpAny_field ho hd (x := .int i 0) rfl ?_)
  show wpAny _ _ (seqItems? (.ref t) >>= _) _ _ s
  refine wpAny_bind (wpAny_seqItems hol hdl ?_)
  simp only [Int.toNat_natCast, hx]
  refine wpAny_bind (wpAny_rule (wpAny_bind (wpAny_setField ho hd (by simp) ?_)))
  show wpAny _ _ (newExc (.type "StopIteration") [] >>= _) _ _ _
  refine wpAny_bind ?_
  simp only [newExc, newTuple]
  refine wpAny_bind (wpAny_newObj_type ?_ (by size_fits))
  refine wpAny_bind (m := firstArgMember _ _) (wpAny_of_eq (a := Value.none) (by first | rfl | (simp only [firstArgMember]; rfl)) ?_)
  refine wpAny_newObj_type ?_ (by size_fits)
  simp only [raiseNew]
  refine wpAny_bind (wpAny_handled ?_)
  first | rw [show A.in1.handled = none from hh] | rw [hh]
  refine wpAny_bind (wpAny_pure (wpAny_throw ?_))
  exact hE _ _ (((Heap.SameBut.update ..).extBut.push _).push _) ⟨_, Heap.get?_push_size _ rfl, rfl⟩
end
theorem draws_tuple {prog : Program} {w : World} {A : Around} (hh : A.handled = none) (it t : Addr) (hne : t ≠ it) (items : Array Value) :
    Draws prog w A it [it, t] items.size (fun i v => items[i]? = some v) (fun i h => h.IsTupleIter it t i ∧ h.IsTuple t items) where
  live := fun _ _ st => let ⟨o, ho, _⟩ := st.1; ⟨o, ho⟩
  frame := fun _ _ _ st hk => by
    obtain ⟨⟨o, ho, r⟩, o2, ho2, r2⟩ := st
    exact ⟨⟨o, hk it (by simp) o ho, r⟩, o2, hk t (by simp) o2 ho2, r2⟩
  item := fun i s Q E hi st hQ => by
    refine nextOf_tuple_item st.1 st.2 (x := items[i]) (by simp [hi]) fun h' hit' hs' => ?_
    exact hQ _ h' s.toks (by simp [hi]) ⟨hit', st.2.extBut hs'.extBut hne⟩ hs'
  done := fun s Q E st hE => nextOf_tuple_end hh st.1 st.2 (by simp) hE
set_option maxHeartbeats 1000000 in
theorem meets_enum_newT (l : Addr) (items : Array Value) (n : Nat) (dct : Option Addr) (sl : Array (Option Value)) :
    Meets (Builtin.«enumerate.__new__» ⟨[.type "enumerate", .ref l], []⟩) (fun _ R s => s.heap.get? l = some { cls := .type "tuple", dict := dct, data := .seq items n, slots := sl } ∧
      R (.ok (.ret (.ref (s.heap.push { cls := .type "tuple_iterator", data := .fields #[.ref l, .int 0 0] }).objs.size)))
        { s with heap := (s.heap.push { cls := .type "tuple_iterator", data := .fields #[.ref l, .int 0 0] }).push { cls := .type "enumerate", data := .fields #[.none, .bool false, .ref s.heap.objs.size, rawInt 0, .none, .none] } }) :=
  .of_wp fun prog w A R s h => by
    obtain ⟨hp, g, d, tk, os⟩ := s; obtain ⟨hl, h⟩ := h
    have hsub := sub_enumerate
    have hL : Heap.IsTuple (Shared.heap ⟨hp, g, d, tk, os⟩) l items := ⟨_, hl, rfl, n, rfl⟩
    wp_walk using wpAny_loadPart' hl
    refine wpAny_stack_any fun st => wpAny_pure ?_
    split
    · rename_i c _ _ _ _ _
      cases (c == Value.type "enumerate")
      · wp_walk using wpAny_loadPart' hl, wpAny_pyIter_tuple hL
        exact ⟨_, rfl, h⟩
      · wp_walk using wpAny_loadPart' hl, wpAny_pyIter_tuple hL
        exact ⟨_, rfl, h⟩
    · wp_walk using wpAny_loadPart' hl, wpAny_pyIter_tuple hL
      exact ⟨_, rfl, h⟩
theorem call_enum_tuple {prog : Program} {w : World} {A : Around} {E : Value → Shared → Prop} {s : Shared} {l : Addr} {items : Array Value} {Q : Value → Shared → Prop} (hL : s.heap.IsTuple l items)
    (h : ∀ h', IsEnum h' (s.heap.objs.size + 1) s.heap.objs.size 0 .none → h'.IsTupleIter s.heap.objs.size l 0 → h'.objs.size = s.heap.objs.size + 2 →
      (∀ b o, s.heap.get? b = some o → h'.get? b = some o) → Q (.ref (s.heap.objs.size + 1)) { s with heap := h' }) :
    wpAny (model prog w) A (call (.type "enumerate") [.ref l]) Q E s := by
  obtain ⟨⟨c, dct, dt, sl⟩, hl, hc, n, hd⟩ := hL
  replace hc : c = .type "tuple" := hc
  replace hd : dt = .seq items n := hd
  subst hc hd
  refine callType_new F.called_enumerate (by decide) (F.typeCall_enumerate_1 _) (F.newCall_enumerate_1 _) (fun obj => F.args_object_init_2 obj _) F.entry_enumerate_new
    (meets_enum_newT l items n dct sl) ⟨hl, ?_⟩
  have hz : (s.heap.push { cls := .type "tuple_iterator", data := .fields #[.ref l, .int 0 0] }).objs.size = s.heap.objs.size + 1 := Heap.size_push ..
  show _ ∧ _
  rw [hz]
  have he : IsEnum ((s.heap.push { cls := .type "tuple_iterator", data := .fields #[.ref l, .int 0 0] }).push
      { cls := .type "enumerate", data := .fields #[.none, .bool false, .ref s.heap.objs.size, rawInt 0, .none, .none] }) (s.heap.objs.size + 1) s.heap.objs.size 0 .none := by
    have := Heap.get?_push_size (s.heap.push { cls := .type "tuple_iterator", data := .fields #[.ref l, .int 0 0] })
      (o := { cls := .type "enumerate", data := .fields #[.none, .bool false, .ref s.heap.objs.size, rawInt 0, .none, .none] }) rfl
    rw [hz] at this; exact this
  refine ⟨⟨_, he, rfl⟩, h _ he ⟨_, Heap.get?_push_of_some _ (Heap.get?_push_size _ rfl), rfl, rfl⟩ (by rw [Heap.size_push, hz]) fun b o x => Heap.get?_push_of_some _ (Heap.get?_push_of_some _ x)⟩
/-- pairs (number, item), each a new tuple -/
def Itet (K : PySem.W.Frag) (a : Addr) : It := ⟨fun i H => ∃ xs x, SqT K H a xs ∧ xs[i]? = some x, fun i H v H' => ∃ T x, v = .ref T ∧ H T = none ∧ (∀ xs, SqT K H a xs → xs[i]? = some x) ∧ H' = upd H T (.tup [.int i, x]), fun i H => ∃ xs, SqT K H a xs ∧ xs.length = i⟩
abbrev enumTSt (e it a : Addr) (i : Nat) (h : Heap) : Prop := (∃ old, IsEnum h e it i old) ∧ h.IsTupleIter it a i
theorem turn_enumT {P : Program} {w : World} {K : PySem.W.Frag} {es : List Expr} {kk : Nat} {pos : Pos} (e it a : Addr) (hei : e ≠ it) (hai : a ≠ it) (hea : e ≠ a) :
    Turn P w K (.Tuple es kk pos) (Itet K a) [e, it] e (enumTSt e it a) where
  mem := by simp
  obj := fun i h st b hb => by
    obtain ⟨⟨old, he⟩, o, ho, c, d⟩ := st
    rcases List.mem_cons.mp hb with rfl | hb
    · exact ⟨_, he, fun v z => by cases z⟩
    · rw [List.mem_singleton.mp hb]
      exact ⟨o, ho, fun v z => by rw [d] at z; cases z⟩
  keep := fun i h h' st k => by
    obtain ⟨⟨old, he⟩, o, ho, r⟩ := st
    exact ⟨⟨old, k e (by simp) _ he⟩, o, k it (by simp) o ho, r⟩
  item := by
    intro X hP hw hK hc i pins s σ H E I hf st hg
    subst hP hw hK
    obtain ⟨xs, x, hq, hx⟩ := hg
    obtain ⟨its, rv, p, hz⟩ := I.tuple hq
    obtain ⟨u, hu, ru⟩ := rv.get hx
    have hlt : i < its.length := (List.getElem?_eq_some_iff.mp hu).1
    have W := WalksT.enumerateD (draws_tuple (prog := X.prog) (w := X.w) (A := X.A.in1) (I.ok.hd hc) it a hai its.toArray) e hei (by simp [hei, hea]) (by simp)
    refine W.item i s _ _ (by simpa using hlt) ⟨st.1, st.2, p⟩ fun T vals h' tk hv hT tup mid kk1 => ?_
    obtain ⟨tt, v, hv1, rfl⟩ := hv
    have ev : v = u := by
      have h1 : its[i]? = some v := by simpa using hv1
      rw [hu] at h1; exact (Option.some.inj h1).symm
    subst ev
    refine ⟨.ref T, rfl, W.go es kk pos i T _ _ _ mid fun h2 st2 kk2 => ?_⟩
    have nT : T ∉ [e, it] := W.apart i T h' mid
    obtain ⟨oT, eT, cT, nT', dT⟩ := id tup
    have eT2 : h2.get? T = some oT := kk2 T oT nT eT
    refine ⟨.ref T, upd H T (.tup [.int i, x]), Inv.turnedN (s' := { s with heap := h2, toks := tk }) I rfl rfl (fun b u0 hb e0 => kk2 b u0 hb (kk1 b u0 hb e0)) hf hT ?_, rfl,
      ⟨T, x, rfl, I.hok.fresh hT, fun ys hy => by rw [I.tuple_inj hy hq]; exact hx, rfl⟩, ⟨st2.1, st2.2.1⟩, fun b hb => ?_⟩
    · exact ⟨by show 2 ≤ _; rw [sizeLine_eq]; decide, [.int i tt, v], .cons ⟨_, rfl⟩ (.cons ru .nil), oT, eT2, cT, nT', dT⟩
    · have nb : b ≠ T := fun z => by subst z; exact nT hb
      rw [upd_ne nb]
      exact (hf b hb).1
  done := by
    intro X hP hw hK hc i pins s σ H E I hf st hg
    subst hP hw hK
    obtain ⟨xs, hq, hx⟩ := hg
    obtain ⟨its, rv, p, hz⟩ := I.tuple hq
    have hlen := rv.length
    have W := WalksT.enumerateD (draws_tuple (prog := X.prog) (w := X.w) (A := X.A.in1) (I.ok.hd hc) it a hai its.toArray) e hei (by simp [hei, hea]) (by simp)
    have hi : i = its.toArray.size := by rw [List.size_toArray]; omega
    subst hi
    refine W.done s _ _ ⟨st.1, st.2, p⟩ fun h' tk kk1 => ⟨rfl, ?_⟩
    exact Inv.turnedF (s' := { s with heap := h', toks := tk }) I rfl rfl kk1 hf
  self := fun A i s Q E st h => by
    obtain ⟨⟨old, he⟩, _⟩ := st
    exact wpAny_pyIter_enum he h
section
variable {X : Cx}
def iEnumT (K : PySem.W.Frag) (ta : TA) : TI := fun σ H R => ta σ H fun vs H1 => ∃ a, vs = [.ref a] ∧ (∃ xs, SqT K H1 a xs) ∧ R (Itet K a) H1
theorem pi_enumT {a : Expr} {es : List Expr} {kk : Nat} {tpos : Pos} {ta : TA} {p pos : Pos} (hg : Gl X "enumerate") (hm : X.mg "enumerate" = none) (ha : PA X [a] ta) (hs : starEach [a] X.env = [(false, eval a X.env)] := by rfl) :
    PI X (.Tuple es kk tpos) (.Call (.Name "enumerate" p) [a] [] pos) (iEnumT X.K ta) := by
  intro pins s σ H R I h
  refine Call_ (ld_blt I hg hm boot_enum (PyProof.Rows.callWith_type1 (thn (ha pos pins s σ H _ I h) fun us s1 ⟨vs, H1, I1, r1, q1⟩ => ?_) hs rfl))
  obtain ⟨a, e, ⟨xs, hq⟩, q⟩ := q1
  subst e
  cases r1 with
  | cons r rr =>
    cases rr
    cases r
    obtain ⟨its, rv, pt, hz⟩ := I1.tuple hq
    have hlt : a < s1.heap.objs.size := by obtain ⟨o, eo, _⟩ := pt; exact Heap.lt_size eo
    refine call_enum_tuple pt fun h' he hit hz hk => ?_
    refine wpAny_pyIter_enum he ?_
    have I2 : Inv X pins σ H1 { s1 with heap := h' } := I1.kept (t' := s1.toks) hk
    have fresh : ∀ b, s1.heap.objs.size ≤ b → FpOk X pins H1 b := fun b hb => I1.fpOk hb (I1.hok.fresh hb)
    refine ⟨s1.heap.objs.size + 1, [s1.heap.objs.size + 1, s1.heap.objs.size], _, Itet X.K a, H1, rfl, I2, turn_enumT _ _ a (Nat.succ_ne_self _) (Nat.ne_of_lt hlt) (Nat.ne_of_gt (Nat.lt_succ_of_lt hlt)), ⟨⟨_, he⟩, hit⟩, fun b hb => ?_, q⟩
    rcases List.mem_cons.mp hb with rfl | hb
    · exact fresh _ (Nat.le_succ _)
    · rw [List.mem_singleton.mp hb]; exact fresh _ (Nat.le_refl _)
/-! ### deep equality -/
inductive DEq (H : Hp) : Nat → V → V → Prop where
  | flat {n : Nat} {v : V} : flatV v = true → DEq H n v v
  | same {n : Nat} {a : Addr} : DEq H n (.ref a) (.ref a)
  | tup {n : Nat} {a b : Addr} {xs ys : List V} : H a = some (.tup xs) → H b = some (.tup ys) → xs.length = ys.length → (∀ (i : Nat) x y, xs[i]? = some x → ys[i]? = some y → DEq H n x y) → DEq H (n + 1) (.ref a) (.ref b)
theorem eqV_self {v : V} (h : flatV v = true) : eqV v v = true := by
  cases v with
  | non => rfl
  | bl b => cases b <;> rfl
  | int i => simp [eqV]
  | str x => simp [eqV]
  | _ => cases h
theorem DEq.eqAt {pins : List (Addr × Obj)} {σ : St} {H : Hp} {s : Shared} (I : Inv X pins σ H s) {n : Nat} {x y : V} (h : DEq H n x y) : ∀ (A : Around) (u v : Value), A.units + n < cLine → RelV x u → RelV y v → SeqAt.EqAt A s u v true := by
  induction h with
  | flat hf =>
    intro A u v _ r1 r2
    have := eqAt_V (A := A) (s := s) r1 r2 hf hf
    rwa [eqV_self hf] at this
  | same =>
    intro A u v _ r1 r2
    cases r1; cases r2
    exact SeqAt.EqAt.same _
  | @tup n a b xs ys e1 e2 hl _ ih =>
    intro A u v hu r1 r2
    cases r1; cases r2
    by_cases hab : a = b
    · subst hab; exact SeqAt.EqAt.same _
    obtain ⟨us, q1, t1, _⟩ := I.tuple (SqT.of e1)
    obtain ⟨ws, q2, t2, _⟩ := I.tuple (SqT.of e2)
    have l1 := q1.length
    have l2 := q2.length
    have key := SeqAt.RcAt.tuples (A := A) (s := s) (items := us.toArray) (items2 := ws.toArray) (e := fun _ => true) t1 t2 (by omega) (fun j g1 g2 => by
      have g1' : j < us.length := by simpa using g1
      have g2' : j < ws.length := by simpa using g2
      obtain ⟨x', ex, rx⟩ : ∃ x', xs[j]? = some x' ∧ RelV x' us[j] := by
        have hj : j < xs.length := by omega
        obtain ⟨u', hu', ru'⟩ := q1.get (i := j) (x := xs[j]) (by simp [hj])
        have : us[j] = u' := by rw [List.getElem?_eq_getElem g1'] at hu'; exact Option.some.inj hu'
        exact ⟨xs[j], by simp [hj], by rw [this]; exact ru'⟩
      obtain ⟨y', ey, ry⟩ : ∃ y', ys[j]? = some y' ∧ RelV y' ws[j] := by
        have hj : j < ys.length := by omega
        obtain ⟨u', hu', ru'⟩ := q2.get (i := j) (x := ys[j]) (by simp [hj])
        have : ws[j] = u' := by rw [List.getElem?_eq_getElem g2'] at hu'; exact Option.some.inj hu'
        exact ⟨ys[j], by simp [hj], by rw [this]; exact ru'⟩
      have := ih j x' y' ex ey A.in1 us[j] ws[j] (by show A.units + 1 + n < cLine; omega) rx ry
      simpa using this)
    have hb : ((List.range (min us.toArray.size ws.toArray.size)).all (fun _ => true) && us.toArray.size == ws.toArray.size) = true := by
      have : us.toArray.size = ws.toArray.size := by rw [List.size_toArray, List.size_toArray]; omega
      rw [this]; simp
    rw [hb] at key
    exact SeqAt.EqAt.of_refs hab key
/-- x != y of two tuples that are the same all the way down -/
theorem op_neD {n : Nat} (hu : X.A.units + n + 2 < cLine) : OpR X (compareOp .NotEq) (fun x y H Q => ∃ a b xs ys, x = .ref a ∧ y = .ref b ∧ H a = some (.tup xs) ∧ H b = some (.tup ys) ∧ xs.length = ys.length ∧ (∀ (i : Nat) x y, xs[i]? = some x → ys[i]? = some y → DEq H n x y) ∧ Q (.bl false) H) := by
  intro pins s σ H x y v u Q I rx ry h
  obtain ⟨a, b, xs, ys, rfl, rfl, e1, e2, hl, hd, hQ⟩ := h
  cases rx; cases ry
  obtain ⟨us, q1, t1, _⟩ := I.tuple (SqT.of e1)
  obtain ⟨ws, q2, t2, _⟩ := I.tuple (SqT.of e2)
  have l1 := q1.length
  have l2 := q2.length
  refine EqBoolInt.of_rcne (SeqAt.RcNeAt.tuples (items := us.toArray) (items2 := ws.toArray) (e := fun _ => true) t1 t2 (by omega) fun j g1 g2 => ?_) ⟨.bl false, H, I, ?_, hQ⟩
  · have g1' : j < us.length := by simpa using g1
    have g2' : j < ws.length := by simpa using g2
    obtain ⟨x', ex, rx⟩ : ∃ x', xs[j]? = some x' ∧ RelV x' us[j] := by
      have hj : j < xs.length := by omega
      obtain ⟨u', hu', ru'⟩ := q1.get (i := j) (x := xs[j]) (by simp [hj])
      have : us[j] = u' := by rw [List.getElem?_eq_getElem g1'] at hu'; exact Option.some.inj hu'
      exact ⟨xs[j], by simp [hj], by rw [this]; exact ru'⟩
    obtain ⟨y', ey, ry⟩ : ∃ y', ys[j]? = some y' ∧ RelV y' ws[j] := by
      have hj : j < ys.length := by omega
      obtain ⟨u', hu', ru'⟩ := q2.get (i := j) (x := ys[j]) (by simp [hj])
      have : ws[j] = u' := by rw [List.getElem?_eq_getElem g2'] at hu'; exact Option.some.inj hu'
      exact ⟨ys[j], by simp [hj], by rw [this]; exact ru'⟩
    have := DEq.eqAt I (hd j x' y' ex ey) X.A.in1 us[j] ws[j] (by show X.A.units + 1 + n < cLine; omega) rx ry
    simpa using this
  · have : us.toArray.size = ws.toArray.size := by rw [List.size_toArray, List.size_toArray]; omega
    have hb : ((List.range (min us.toArray.size ws.toArray.size)).all (fun _ => true) && us.toArray.size == ws.toArray.size) = true := by rw [this]; simp
    rw [hb]
    rfl
/-- t == () -/
theorem op_eqE (hu : X.A.units < cLine) : OpR X (compareOp .Eq) (fun x y H Q => ∃ a b xs, x = .ref a ∧ y = .ref b ∧ H a = some (.tup xs) ∧ H b = some (.tup []) ∧ Q (.bl xs.isEmpty) H) := by
  intro pins s σ H x y v u Q I rx ry h
  obtain ⟨a, b, xs, rfl, rfl, e1, e2, hQ⟩ := h
  cases rx; cases ry
  obtain ⟨us, q1, t1, _⟩ := I.tuple (SqT.of e1)
  obtain ⟨ws, q2, t2, _⟩ := I.tuple (SqT.of e2)
  cases q2
  refine SeqAt.eq_tupleAt (items := us.toArray) (items2 := ([] : List Value).toArray) (e := fun _ => true) t1 t2 hu (fun j g1 g2 => absurd g2 (Nat.not_lt_zero _)) ⟨.bl xs.isEmpty, H, I, ?_, hQ⟩
  have l1 := q1.length
  cases xs with
  | nil => cases q1; rfl
  | cons x xs => cases q1; rfl
end
end L2
end
section
set_option Elab.async false
set_option linter.all false
set_option maxRecDepth 100000
namespace L2
open PySem PySem.Spec PyProof.Rows
section
variable {X : Cx}
def tComp2 (K : PySem.W.Frag) (caps : List Nat) (wi : TI) (te : TE) : TE := fun σ H Q => wi σ H fun J H1 => ∃ (n : Nat) (W : Nat → List V → Hp → Prop), n < sizeLine ∧ W 0 [] H1 ∧ ∀ i zs H, W i zs H →
  (J.stop i H ∧ ∀ p, H p = none → Q (.ref p) (upd H p (.lst zs))) ∨ (J.go i H ∧ i < n ∧ ∀ x H', J.yld i H x H' → ∃ a v0 v1, x = .ref a ∧ SqT K H' a [v0, v1] ∧ te (some v0 :: some v1 :: capsOf caps σ) H' fun z H3 => W (i + 1) (zs ++ [z]) H3)
/-- [elt for x1, x2 in iter] -/
theorem pe_comp2 {elt iter : Expr} {x1 x2 : Str} {px1 px2 pt pos : Pos} {kt : Nat} {scope : Scope} {cl : List (Str × Addr)} {cn : List Str} {caps : List Nat} {wi : TI} {te : TE}
    (hc : X.calm = true) (hi : PI X (.Tuple [.Name x1 px1, .Name x2 px2] kt pt) iter wi) (cp : Caps X scope x1 cl cn caps) (hx2 : scope.names.lookup x2 = some .local) (nd2 : (x1 :: x2 :: cn).Nodup)
    (he : ∀ C ex s H, PE (cxComp X (x1 :: x2 :: cn) scope cl C ex s H) elt te)
    (hs : ∀ x, foldedSetIterable iter X.env x = pure x := by intro _; rfl) :
    PE X (.ListComp elt [⟨.Tuple [.Name x1 px1, .Name x2 px2] kt pt, iter, [], 0⟩] scope pos) (tComp2 X.K caps wi te) := by
  intro pins s σ H Q I h
  rw [eval_ListComp]
  refine wpAny_comprehension_free (use := none) rfl hs cp.clos cp.kind cp.names (thn (hi pins s σ H _ I h) fun v s1 h1 => thn h1 fun itv s2 h2 => ?_)
  obtain ⟨it, fp, tn, J, H2, e, I2, T, st2, f2, n, W, hn, w0, turn⟩ := h2
  subst e
  refine wpAny_newObj_type (wpAny_newFunctionEnv cp.cell (by intro y hy; simp at hy) (fun h₁ hns₁ hsb₁ => ?_) cp.kind)
  dsimp only at hns₁ hsb₁ ⊢
  generalize hG : s2.heap.push { cls := .type "list", dict := none, data := .seq ([] : List Value).toArray } = G at hns₁ hsb₁ ⊢
  have hC : G.objs.size = s2.heap.objs.size + 1 := by rw [← hG, Heap.size_push]
  generalize hCe : G.objs.size = C at hns₁ hsb₁ hC ⊢
  generalize hDe : s2.heap.objs.size = D at hC ⊢
  have hDC : D ≠ C := by rw [hC]; exact Nat.ne_of_lt (Nat.lt_succ_self _)
  have below : ∀ b, b < D → b ≠ C ∧ b ≠ D := fun b hb => ⟨by rw [hC]; exact Nat.ne_of_lt (Nat.lt_succ_of_lt hb), Nat.ne_of_lt hb⟩
  have old : ∀ b o, s2.heap.get? b = some o → h₁.get? b = some o := fun b o e => hsb₁.extBut b o (below b (hDe ▸ Heap.lt_size e)).1 (Heap.get?_push_of_some _ (hG ▸ Heap.get?_push_of_some _ e))
  have hacc : h₁.get? D = some (listO [] 0) := hsb₁.extBut _ _ hDC (Heap.get?_push_of_some _ (by rw [← hG, ← hDe]; exact Heap.get?_push_size _ rfl))
  have fpl : ∀ b ∈ fp, b < D := fun b hb => by
    obtain ⟨o, e, _⟩ := T.obj _ _ st2 b hb
    exact hDe ▸ Heap.lt_size e
  have hDs : s2.heap.objs.size ≤ D := Nat.le_of_eq hDe
  have hCs : s2.heap.objs.size ≤ C := by omega
  have fsN : ∀ {b}, b ≠ X.env.locals → b ∉ X.fs → b ∉ frs X.stack := fun {b} h1 h2 z => (List.mem_cons.mp (I2.stkSub b z)).elim h1 h2
  have big : ∀ {a}, s2.heap.objs.size ≤ a → a ∉ frs X.stack := fun {a} ha => fsN (Nat.ne_of_gt (Nat.lt_of_lt_of_le I2.lt ha)) (I2.nofs ha)
  have cellLt : ∀ y c, cl.lookup y = some c → c < D := fun y c e => by
    obtain ⟨v, q⟩ := I2.cell y c (cp.sub y c e)
    exact hDe ▸ q.lt
  -- the inner context
  have ok : (cxComp X (x1 :: x2 :: cn) scope cl C fp s2 H2).Ok := by
    refine ⟨I2.ok.mod, cp.kind, I2.ok.glob, I2.ok.blt, hCs, fun y z c h1 h2 => I2.ok.inj y z c (cp.sub y c h1) (cp.sub z c h2), fun y hy => cp.has y hy, fun y c hf => (by cases hf), I2.ok.hd, I2.ok.frames, .inl rfl, fun b hb => ?_, I2.bs, Nat.le_trans I2.ok.bsz I2.sz, fun b o e hb => ?_, fun b hb => ?_, I2.stack, I2.stkFree⟩
    · exact ⟨(below b (fpl b hb)).1, fun y c e => (f2 b hb).2.2.2.2.1 y c (cp.sub y c e)⟩
    · obtain ⟨_, _, _, q, _⟩ := f2 b hb
      rcases q with q | q
      · exact I2.ok.noex b o e q
      · exact absurd (Nat.lt_of_lt_of_le (Heap.lt_size (I2.ok.bs b o e).1) q) (Nat.lt_irrefl _)
    · exact fsN (f2 b hb).2.1 (f2 b hb).2.2.1
  have stat : ∀ {us : List Value} {nn : Nat} {H' : Hp}, (∀ b ∈ fp, H' b = none) → ∀ b ∈ fp, FpOk (cxComp X (x1 :: x2 :: cn) scope cl C fp s2 H2) [(D, listO us nn)] H' b := fun {us nn H'} hn b hb =>
    ⟨hn b hb, (below b (fpl b hb)).1, fsN (f2 b hb).2.1 (f2 b hb).2.2.1, .inl hb, fun y c e => (f2 b hb).2.2.2.2.1 y c (cp.sub y c e), fun p hp => by
      obtain rfl : p = (D, listO us nn) := by simpa [cxComp] using hp
      exact (below b (fpl b hb)).2.symm⟩
  -- one pin more: the list
  have pinD : ∀ {σ' : St} {H' : Hp} {s' : Shared} {us : List Value} {nn : Nat}, Inv (cxComp X (x1 :: x2 :: cn) scope cl C fp s2 H2) [] σ' H' s' → H' D = none → s'.heap.get? D = some (listO us nn) → Inv (cxComp X (x1 :: x2 :: cn) scope cl C fp s2 H2) [(D, listO us nn)] σ' H' s' := fun {σ' H' s' us nn} J hn e =>
    J.pins_of fun p hp => by
      obtain rfl : p = (D, listO us nn) := by simpa using hp
      exact ⟨e, hn, hDC, big hDs, fun v z => by cases z⟩
  have I4 : ∀ tk, Inv (cxComp X (x1 :: x2 :: cn) scope cl C fp s2 H2) [] (none :: none :: capsOf caps σ) H2 { s2 with heap := h₁, toks := tk } := fun tk => by
    refine ⟨ok, rfl, I2.bare, Un.kept old, ⟨_, hns₁, fun i y v h1 h2 h3 => ?_⟩, fun y c e => ?_, I2.hok.fresh hCs, fun y c e => I2.freeC y c (cp.sub y c e), fun p hp => absurd (show p ∈ ([] : List (Addr × Obj)) from hp) (by simp), I2.hok.kept old, ?_⟩
    · match i, h1, h2 with
      | 0, h1, h2 => simp at h2
      | 1, h1, h2 => simp at h2
      | k + 2, h1, h2 =>
        have h1' : cn[k]? = some y := by simpa [cxComp] using h1
        obtain ⟨j, ej, eN, vis, kd, kd'⟩ := cp.cap k y h1'
        have h2' : σ[j]? = some (some v) := by
          have q : (capsOf caps σ)[k]? = some (some v) := by simpa using h2
          unfold capsOf at q
          rw [List.getElem?_map, ej] at q
          have q' : (σ[j]?).getD none = some v := by simpa using q
          cases eσ : σ[j]? with
          | none => rw [eσ] at q'; cases q'
          | some z => rw [eσ] at q'; rw [show z = some v from q']
        obtain ⟨m, hm, hl⟩ := I2.loc
        obtain ⟨u, ru, lk⟩ := hl j y v eN h2' vis
        refine ⟨u, ru, ?_⟩
        obtain ⟨c, ec⟩ := cp.has y kd'
        rcases lk with ⟨k1, _⟩ | ⟨_, c', ec', z⟩
        · rcases kd with kd | kd <;> (rw [kd] at k1; cases k1)
        · have : c = c' := Option.some.inj ((cp.sub y c ec).symm.trans ec')
          subst this
          obtain ⟨o, ho, hd⟩ := z
          exact .inr ⟨kd', c, ec, ⟨o, old c o ho, hd⟩⟩
    · obtain ⟨v, o, ho, hd⟩ := I2.cell y c (cp.sub y c e)
      exact ⟨v, o, old c o ho, hd⟩
    · show _ = (x1 :: x2 :: cn).length
      simp [capsOf, cp.len]
  -- the loop
  have loop : ∀ s₃ : Shared, Inv (cxComp X (x1 :: x2 :: cn) scope cl C fp s2 H2) [] (none :: none :: capsOf caps σ) H2 s₃ → s₃.heap.get? D = some (listO [] 0) → tn 0 s₃.heap →
      codeAny (model X.prog X.w) X.A (.compLoop (.ListComp elt [⟨.Tuple [.Name x1 px1, .Name x2 px2] kt pt, iter, [], 0⟩] scope pos) 0 (.ref it) (.ref D) (compEnvC scope cl C X.env))
        (compPost (model X.prog X.w) X.A X.xe none (EP X pins σ Q) (.ref D) C) s₃ := by
    intro s₃ I3 e3 t3
    refine compLoop_any (fun k s' => ∃ (i : Nat) (zs : List V) (us : List Value) (nn : Nat) (H' : Hp), k = n + 1 - i ∧ i ≤ n ∧ Inv (cxComp X (x1 :: x2 :: cn) scope cl C fp s2 H2) [(D, listO us nn)] (none :: none :: capsOf caps σ) H' s' ∧ tn i s'.heap ∧ (∀ b ∈ fp, H' b = none) ∧ W i zs H' ∧ Vals zs us ∧ zs.length = i) ?_ (n + 1)
      ⟨0, [], [], 0, H2, rfl, Nat.zero_le _, pinD I3 (I2.hok.fresh hDs) e3, t3, fun b hb => (f2 b hb).1, w0, .nil, rfl⟩
    rintro k s' ⟨i, zs, us, nn, H', rfl, hin, I', st', fr', w', vs', hl⟩
    have pD := I'.pin (D, listO us nn) (List.mem_append_right _ (by simp))
    rcases turn i zs H' w' with ⟨stop, fin⟩ | ⟨go, hlt, step⟩
    · refine thn (T.done (cxComp X (x1 :: x2 :: cn) scope cl C fp s2 H2) rfl rfl rfl hc i _ s' _ H' (fun _ _ => False) I' (stat fr') st' stop) fun r s4 ⟨hr, I4'⟩ => ?_
      subst hr
      obtain ⟨m, hm, _⟩ := id I4'.loc
      refine ⟨m, hm, fun h' hs' => ?_⟩
      obtain ⟨e4, n4, _, _, _⟩ := I4'.pin (D, listO us nn) (List.mem_append_right _ (by simp))
      have e4 : s4.heap.get? D = some (listO us nn) := e4
      have n4 : H' D = none := n4
      have nC : H' C = none := I4'.free
      have kk : ∀ b o, b ≠ C → s4.heap.get? b = some o → h'.get? b = some o := fun b o hb e => (hs'.2 b hb).trans e
      have un : Un (frs X.stack) fp H2 (upd H' D (.lst zs)) s2.heap h' := by
        have u := I4'.base
        have ne : ∀ b o, s2.heap.get? b = some o → b ≠ C ∧ b ≠ D := fun b o e => below b (hDe ▸ Heap.lt_size e)
        refine ⟨fun b o e n0 hb hx => kk b o (ne b o e).1 (u.keep b o e n0 hb hx), fun b o e n0 hb hx => ?_, fun b o e n0 hx => ?_, fun b o e hx => ?_, fun b xs e => ?_, fun b o xs e => ?_, fun b ps e => ?_⟩
        · obtain ⟨sl, q⟩ := u.slot b o e n0 hb hx
          exact ⟨sl, kk b _ (ne b o e).1 q⟩
        · rw [upd_ne (ne b o e).2]; exact u.free b o e n0 hx
        · obtain ⟨o', q⟩ := u.there b o e hx
          exact ⟨o', kk b _ (ne b o e).1 q⟩
        · have q := u.tups b xs e
          rw [upd_ne (ne_of_none q n4)]; exact q
        · have q := u.frzs b o xs e
          rw [upd_ne (ne_of_none q n4)]; exact q
        · obtain ⟨more, q⟩ := u.tbls b ps e
          exact ⟨more, by rw [upd_ne (ne_of_none q n4)]; exact q⟩
      have hokD : HOk X.prog X.w (upd H' D (.lst zs)) h' := fun b o e => by
        by_cases hb : b = D
        · subst hb
          rw [upd_same] at e; cases e
          exact ⟨by omega, us, nn, vs', kk _ _ hDC e4⟩
        · rw [upd_ne hb] at e
          refine (I4'.hok b o e).stay (fun c v hcc q => kk c v ?_ q) (fun c q => ?_) fun c xs q => ?_
          · rintro rfl
            rcases hcc with z | z
            · rw [← z, nC] at e; cases e
            · rw [nC] at z; cases z
          · rw [upd_ne (ne_of_none q n4)]; exact q
          · rw [upd_ne (ne_of_none q n4)]; exact q
      obtain ⟨hh, gg, dd, tt, oo⟩ := s4
      obtain rfl : oo = s2.os := I4'.os
      refine ⟨.ref D, upd H' D (.lst zs), ?_, rfl, fin D n4⟩
      have fin1 := I2.call (h' := h') (g' := gg) (d' := dd) (t' := tt) (ch := fp) un hokD I4'.bare fun b hb => ⟨(f2 b hb).2.2.2.1, (f2 b hb).2.1, (f2 b hb).2.2.2.2.1, (f2 b hb).2.2.2.2.2⟩
      exact fin1
    · refine thn (T.item (cxComp X (x1 :: x2 :: cn) scope cl C fp s2 H2) rfl rfl rfl hc i _ s' _ H' (fun _ _ => False) I' (stat fr') st' go) fun r s4 ⟨u, hr, h4⟩ => ?_
      subst hr
      refine thn h4 fun _ s5 ⟨y, H5, I5, r5, y5, st5, fr5⟩ => ?_
      have I5' := I5.pinned (stat fr5) (T.obj _ _ st5)
      obtain ⟨a0, v0, v1, rfl, hsq, step5⟩ := step y H5 y5
      refine thn ((pg_tup (X := cxComp X (x1 :: x2 :: cn) scope cl C fp s2 H2) hc (pgs_cons (pg_name (i := 0) nd2 rfl (.inl (lookup_relabel_local cp.hx)) (.inr (lookup_relabel_local cp.hx))) (pgs_cons (pg_name (i := 1) nd2 rfl (.inl (lookup_relabel_local hx2)) (.inr (lookup_relabel_local hx2))) pgs_nil))) _ s5 _ H5 _ u (fun σ' H'' => σ' = some v0 :: some v1 :: capsOf caps σ ∧ H'' = H5) I5' r5 ⟨a0, [v0, v1], rfl, hsq, rfl, v0, [v1], rfl, v1, [], rfl, rfl, rfl, rfl⟩) fun _ s6 ⟨σ6, H6, I6, q6, q6'⟩ => ?_
      subst q6; subst q6'
      refine thn (he C fp s2 H2 _ s6 _ H6 _ I6 step5) fun v7 s7 ⟨z, H7, I7, r7, w7⟩ => ?_
      obtain ⟨e7, n7, _, _, _⟩ := I7.pin (D, listO us nn) (List.mem_append_right _ (List.mem_append_left _ (by simp)))
      have e7 : s7.heap.get? D = some (listO us nn) := e7
      have n7 : H7 D = none := n7
      have hul : us.length = i := by rw [← vs'.length]; exact hl
      refine wpAny_list_append_plain (hsz := by rw [List.size_toArray]; omega) ⟨nn, e7⟩ fun h8 p8 sb8 => ?_
      obtain ⟨n8, e8⟩ := p8
      have e8 : h8.get? D = some (listO (us ++ [v7]) n8) := by rw [e8]; simp [listO]
      have I8 : Inv (cxComp X (x1 :: x2 :: cn) scope cl C fp s2 H2) [] (some v0 :: some v1 :: capsOf caps σ) H7 { s7 with heap := h8 } :=
        Inv.turned (t' := s7.toks) (I7.pins_of fun p hp => absurd hp (by simp)) (fun b o hb e => (sb8.2 b hb).trans e) n7 hDC (.inr hDs) (fun y' c e => Nat.ne_of_lt (cellLt y' c e)) fun p hp => absurd (show p ∈ ([] : List (Addr × Obj)) from hp) (by simp)
      refine ⟨n + 1 - (i + 1), by omega, i + 1, zs ++ [z], us ++ [v7], n8, H7, rfl, hlt, ?_, ?_, fun b hb => ?_, w7, vs'.append (.cons r7 .nil), by rw [List.length_append, hl]; rfl⟩
      · refine pinD (I8.weak (by simp) fun j v e => ?_) n7 e8
        match j, e with
        | 0, e => simp at e
        | 1, e => simp at e
        | j + 2, e => simpa using e
      · refine T.keep _ _ _ st5 fun b hb o e => (sb8.2 b (below b (fpl b hb)).2).trans (I7.pin (b, o) (List.mem_append_right _ (List.mem_append_right _ (mem_pinsAt hb e)))).1
      · obtain ⟨o, e, d⟩ := T.obj _ _ st5 b hb
        exact (I7.pin (b, o) (List.mem_append_right _ (List.mem_append_right _ (mem_pinsAt hb e)))).2.1
  have t4 : tn 0 h₁ := T.keep _ _ _ st2 fun b hb o e => old b o e
  refine codeAny_compStart_list (loop _ (I4 _) hacc t4) (T.self _ 0 _ _ _ t4 (loop _ (I4 _) hacc t4))
end
end L2
end
section
set_option Elab.async false
set_option linter.all false
set_option maxRecDepth 100000
namespace HT
open PySem PySem.Spec PyProof.Rows
section
variable {prog : Program} {w : World} {A : Around} {E : Value → Shared → Prop} {s : Shared}
theorem pick_rev (xs : Array Value) : ((List.range xs.size).filterMap fun (m : Nat) => xs[(((xs.size : Int) - 1) + (m : Int) * (-1)).toNat]?).toArray = xs.toList.reverse.toArray := by
  congr 1
  have key : ∀ n, n ≤ xs.size → ((List.range n).filterMap fun (m : Nat) => xs[(((xs.size : Int) - 1) + (m : Int) * (-1)).toNat]?) = xs.toList.reverse.take n := by
    intro n
    induction n with
    | zero => intro _; rfl
    | succ n ih =>
      intro hn
      rw [List.range_succ, List.filterMap_append, ih (by omega), List.take_add_one]
      congr 1
      have e1 : (((xs.size : Int) - 1) + (n : Int) * (-1)).toNat = xs.size - 1 - n := by omega
      have hlt : xs.size - 1 - n < xs.size := by omega
      have e2 : xs.toList.reverse[n]? = some xs[xs.size - 1 - n] := by
        rw [List.getElem?_reverse (by rw [Array.length_toList]; omega)]
        simp [hlt]
      have e3 : xs[(((xs.size : Int) - 1) + (n : Int) * (-1)).toNat]? = some xs[xs.size - 1 - n] := by rw [e1]; simp [hlt]
      rw [e2]
      simp only [List.filterMap_cons, List.filterMap_nil, e3, Option.toList]
  rw [key _ (Nat.le_refl _), List.take_of_length_le (by simp)]
theorem sliceApplied_rev {sl : Addr} {t : Tok} {n : Nat} {Q : Int × Int × Nat → Shared → Prop} {os : Obj} (hos : s.heap.get? sl = some os) (hds : os.data = .fields #[.none, .none, .int (-1) t])
    (h : Q ((n : Int) - 1, -1, n) s) : wpAny (model prog w) A (Builtin.Slice.sliceApplied (.ref sl) (pure (n : Int))) Q E s := by
  unfold Builtin.Slice.sliceApplied Builtin.Slice.sliceFields
  refine wpAny_bind (wpAny_bind (wpAny_field hos hds (x := .none) rfl (wpAny_bind (wpAny_field hos hds (x := .none) rfl (wpAny_bind (wpAny_field hos hds (x := .int (-1) t) rfl (wpAny_pure ?_)))))))
  refine wpAny_bind (slicePart_int ?_)
  show wpAny _ _ (if ((-1 : Int) == 0) = true then _ else _) _ _ s
  rw [if_neg (by decide)]
  refine wpAny_bind (slicePart_none (wpAny_bind (slicePart_none (wpAny_bind (wpAny_pure ?_)))))
  show wpAny _ _ (match Builtin.Slice.sliceAdjust none none (-1) (n : Int) with | (lo, hi) => pure (lo, (-1 : Int), Builtin.Slice.slicePlaces lo hi (-1))) _ _ s
  have e1 : Builtin.Slice.sliceAdjust none none (-1) (n : Int) = ((n : Int) - 1, -1) := by
    unfold Builtin.Slice.sliceAdjust
    simp
  rw [e1]
  show wpAny _ _ (pure ((n : Int) - 1, (-1 : Int), Builtin.Slice.slicePlaces ((n : Int) - 1) (-1) (-1))) _ _ s
  have e2 : Builtin.Slice.slicePlaces ((n : Int) - 1) (-1) (-1) = n := by
    unfold Builtin.Slice.slicePlaces
    have h1 : ¬ ((-1 : Int) > 0) := by omega
    simp only [h1, if_false, Int.neg_neg, Int.ediv_one]
    split <;> omega
  rw [e2]
  exact wpAny_pure h
theorem getItem_tuple_rev {t sl : Addr} {items : Array Value} {tk : Tok} {os : Obj} {Q : Value → Shared → Prop} (ht : IsTup s.heap t items) (hos : s.heap.get? sl = some os) (hcs : os.cls = .type "slice") (hds : os.data = .fields #[.none, .none, .int (-1) tk])
    (h : Q (.ref s.heap.objs.size) { s with heap := s.heap.push { cls := .type "tuple", data := .seq items.toList.reverse.toArray } })
    (hsz : items.size ≤ sizeLine) : wpAny (model prog w) A (getItem (.ref t) (.ref sl)) Q E s := by
  have htake : sizeOk (.seq items.toList.reverse.toArray) := by
    show items.toList.reverse.toArray.size ≤ sizeLine
    rw [List.size_toArray, List.length_reverse, Array.length_toList]; exact hsz
  have hTs : s.TypeIs (.ref sl) "slice" := ⟨os, hos, hcs⟩
  unfold getItem
  try with_reducible refine wpAny_holding ?_
  first | refine wpAny_bind (wpAny_pure ?_) | skip
  refine wpAny_bind (wpAny_sequenceKey ht.typeIs (by decide) ?_)
  refine wpAny_bind (wpAny_callSpecial?_slot (name := Str.ofString "__getitem__") ht.typeIs PyProof.Rows.slot_tuple_getitem
    (wpAny_call_entry PyProof.Rows.slot_tuple_getitem ht.typeIs entry_tuple_getitem ?_ (args_tuple_getitem _ _)))
  show wpAny _ _ (Builtin.Tuple.tupleItemsOf (.ref t) >>= _) _ _ s
  refine wpAny_bind (tupleItemsOf_ ht ?_)
  refine wpAny_bind (wpAny_typeOf hTs ?_)
  rw [if_pos (by decide)]
  refine wpAny_bind (sliceApplied_rev hos hds ?_)
  have hno : ¬ ((((items.size : Int) - 1) == 0 && (-1 : Int) == 1 && items.size == items.size) = true) := by
    intro q
    rw [Bool.and_eq_true, Bool.and_eq_true] at q
    exact absurd q.1.2 (by decide)
  show wpAny _ _ (if (((items.size : Int) - 1) == 0 && (-1 : Int) == 1 && items.size == items.size) = true then _ else _) _ _ s
  rw [if_neg hno, pick_rev]
  first
    | exact wpAny_bind (m := Builtin.Tuple.tupleExact _) (wpAny_newObj_type (wpAny_pure ⟨_, rfl, wpAny_pure h⟩) htake)
    | exact wpAny_bind (m := Builtin.Tuple.tupleExact _) (wpAny_newObj_type (wpAny_bind (wpAny_pure (wpAny_pure ⟨_, rfl, wpAny_pure h⟩))) htake)
    | exact wpAny_bind (wpAny_bind (m := Builtin.Tuple.tupleExact _) (wpAny_newObj_type (wpAny_pure (wpAny_pure ⟨_, rfl, wpAny_pure h⟩)) htake))
    | exact wpAny_bind (wpAny_bind (m := Builtin.Tuple.tupleExact _) (wpAny_newObj_type (wpAny_pure ⟨_, rfl, wpAny_pure h⟩) htake))
end
end HT
namespace L2
open PySem PySem.Spec PyProof.Rows
section
variable {X : Cx}
theorem Vals_rev : ∀ {xs : List V} {us : List Value}, Vals xs us → Vals xs.reverse us.reverse
  | _, _, .nil => .nil
  | _, _, .cons r1 r2 => by rw [List.reverse_cons, List.reverse_cons]; exact (Vals_rev r2).append (.cons r1 .nil)
/-- t[::-1] -/
def tRev (te ts : TE) : TE := fun σ H Q => te σ H fun x H1 => ts σ H1 fun y H2 => y = .int (-1) ∧ ∃ a xs, x = .ref a ∧ H2 a = some (.tup xs) ∧ ∀ p, H2 p = none → Q (.ref p) (upd H2 p (.tup xs.reverse))
theorem pe_rev {e st : Expr} {te ts : TE} {pos p2 : Pos} (he : PE X e te) (hs : PE X st ts) : PE X (.Subscript e (.Slice none none (some st) p2) pos) (tRev te ts) := by
  intro pins s σ H Q I h
  refine Subscript_ (thn (he pins s σ H _ I h) fun v s1 ⟨x, H1, I1, r1, q1⟩ => ?_)
  refine wpAny_Slice ?_
  rw [evalPart_none]
  refine wpAny_pure (wpAny_pure ?_)
  rw [evalPart_some]
  refine thn (hs pins s1 σ H1 _ I1 q1) fun vs s2 ⟨y, H2, I2, r2, ey, q2⟩ => ?_
  subst ey
  obtain ⟨tk, rfl⟩ := r2
  obtain ⟨a, xs, rfl, hx, q⟩ := q2
  cases r1
  have I4 : Inv X pins σ H2 { s2 with heap := s2.heap.push { cls := .type "slice", data := .fields #[.none, .none, .int (-1) tk] } } := I2.kept (t' := s2.toks) fun b ob q => Heap.get?_push_of_some _ q
  obtain ⟨its, r, ht, hz⟩ := I4.tuple (SqT.of hx)
  have hlen : its.toArray.size = xs.length := by rw [List.size_toArray]; exact r.length.symm
  show wpAny (model X.prog X.w) X.A (subscriptTail e (.Slice none none (some st) p2) (.ref a) (.ref s2.heap.objs.size)) (EP X pins σ Q) X.xe { s2 with heap := s2.heap.push { cls := .type "slice", data := .fields #[.none, .none, .int (-1) tk] } }
  refine tail_any (ops := [.ref a, .ref s2.heap.objs.size]) ht.typeIs PyProof.Rows.slot_tuple_getitem.lookup ?_ (by with_unfolding_all rfl)
  refine HT.getItem_tuple_rev ht (Heap.get?_push_size _ rfl) rfl rfl ?_ (by rw [hlen]; exact hz)
  have hrv : Vals xs.reverse its.reverse := Vals_rev r
  have ear : its.toArray.toList.reverse.toArray = its.reverse.toArray := by simp
  rw [ear]
  refine ⟨.ref _, _, I4.laid (t' := s2.toks) (o := .tup xs.reverse) (fun b ob q => Heap.get?_push_of_some _ q) (Nat.le_refl _) ?_, rfl, q _ (I4.hok.fresh (Nat.le_refl _))⟩
  exact ⟨by rw [List.length_reverse]; exact hz, _, hrv, IsTup.new _ _⟩
end
end L2
end
section
set_option Elab.async false
set_option linter.all false
set_option maxRecDepth 100000
/-! sets of texts, walked -/
namespace TXS
open PySem PySem.Spec PyProof.Rows
theorem slotN : Slot "set_iterator" "__next__" "set_iterator.__next__" := by
  refine .of (owner := "set_iterator") (n := "__next__") ?_ ?_ ?_ ?_ ?_ ?_
  · rw [typeLookup_type, builtinLookup_eq_fast]
    kernel_rfl
  · decide +kernel
  · decide +kernel
  · decide +kernel
  · first
      | exact .inl (by decide +kernel)
      | exact .inr (by decide +kernel)
  · rw [isSubtype_type]
    kernel_rfl
theorem entryN : entryFor table "set_iterator.__next__" = some Builtin.«set_iterator.__next__» := entryFor_of_tree (by kernel_rfl)
theorem ownerN : Manifest.owners.lookup (String.ofList ['r', 'o', 't', 'a', 'r', 'e', 't', 'i', '_', 't', 'e', 's'].reverse) = some Manifest.sig_set_iterator := by kernel_rfl
theorem argsN (v : Value) : argsOk "set_iterator.__next__" ⟨[v], []⟩ := by
  unfold argsOk
  rw [signature?_of (id := "set_iterator.__next__") (n := ['_', '_', 't', 'x', 'e', 'n', '_', '_']) (o := ['r', 'o', 't', 'a', 'r', 'e', 't', 'i', '_', 't', 'e', 's']) (by kernel_rfl) ownerN]
  kernel_rfl
theorem entryI : entryFor table "set.__iter__" = some Builtin.«frozenset.__iter__» :=
  entryFor_alias (id' := "frozenset.__iter__") (by kernel_rfl) rfl (by decide +kernel) (by kernel_rfl)
/-! ### orders -/
theorem erasePerm {α : Type} : ∀ (l : List α) (i : Nat) (h : i < l.length), (l[i] :: l.eraseIdx i).Perm l
  | [], _, h => by cases h
  | x :: l, 0, _ => .rfl
  | x :: l, i + 1, h => by
    have h' : i < l.length := Nat.lt_of_succ_lt_succ h
    exact (List.Perm.swap x l[i] (l.eraseIdx i)).trans ((erasePerm l i h').cons x)
theorem pickGo {α : Type} (next : Nat → Nat) : ∀ (fuel k : Nat) (left : List α) (out : Array α), left.length = fuel → (pickOrder.go next fuel k left out).toList.Perm (out.toList ++ left)
  | 0, k, left, out, hl => by
    rw [List.length_eq_zero_iff.mp hl, List.append_nil]
    exact .rfl
  | fuel + 1, k, left, out, hl => by
    have hlt : next k % left.length < left.length := Nat.mod_lt _ (by omega)
    unfold pickOrder.go
    rw [List.getElem?_eq_getElem hlt]
    dsimp only
    refine (pickGo next fuel (k + 1) _ _ (by rw [List.length_eraseIdx, if_pos hlt]; omega)).trans ?_
    rw [Array.toList_push, List.append_assoc]
    exact (erasePerm left _ hlt).append_left _
theorem pickPerm {α : Type} (next : Nat → Nat) (xs : Array α) : (pickOrder next xs).toList.Perm xs.toList := by
  have := pickGo next xs.size 0 xs.toList #[] (by simp)
  unfold pickOrder
  simpa using this
section
variable {M : Model} {A : Around} {E : Value → Shared → Prop}
theorem chooseA {s : Shared} {src : Source} {n : Nat} {Q : Nat → Shared → Prop} (hn : n ≠ 0) (g : ∀ i, i < n → Q i { s with drawn := s.drawn.bump src }) : wpAny M A (choose src n) Q E s := by
  intro Γ p hΓ
  change PySem.Sem.wp M Γ (.choose src n .pure) _ _ p s
  rw [PySem.Sem.wp_choose]
  refine ⟨hn, ?_⟩
  have := g _ (Nat.mod_lt (M.w.draws src (s.drawn.get src)) (Nat.pos_of_ne_zero hn))
  exact (wpAny_pure (M := M) (A := A) (E := E) this) Γ p hΓ
theorem drawA {α : Type} : ∀ (n : Nat) (xs : List α) {Q : List α → Shared → Prop} {s : Shared}, xs.length = n → (∀ ys d, ys.Perm xs → Q ys { s with drawn := d }) → wpAny M A (drawOrder n xs) Q E s
  | 0, xs, Q, s, hl, g => by
    have e := List.length_eq_zero_iff.mp hl
    subst e
    exact wpAny_pure (g [] s.drawn .rfl)
  | n + 1, [], Q, s, hl, g => by cases hl
  | n + 1, x :: xs, Q, s, hl, g => by
    change wpAny M A (choose .order (x :: xs).length >>= _) Q E s
    refine wpAny_bind (chooseA (by simp) fun i hi => ?_)
    rw [List.getElem?_eq_getElem hi]
    dsimp only
    refine wpAny_bind (drawA n ((x :: xs).eraseIdx i) (by rw [List.length_eraseIdx, if_pos hi]; omega) fun ys d hp => wpAny_pure (g _ d ?_))
    exact (hp.cons _).trans (erasePerm _ _ hi)
end
end TXS
end
section
set_option Elab.async false
set_option linter.all false
set_option maxRecDepth 100000
namespace TXS
open PySem PySem.Spec PyProof.Rows
def txt : Value → Str
  | .str x _ => x
  | _ => ""
/-- the elements and the table of a set of the texts L -/
structure TOk (w : World) (es : Array (Int × Value)) (t : SetTable) (L : List Str) : Prop where
  el : ∀ e ∈ es.toList, ∃ x tk, e = (hashStr w x, Value.str x tk)
  pm : (es.toList.map fun e => txt e.2).Perm L
  nd : L.Nodup
  bd : es.size < scanBound
  ft : t.fits es.size = true
  ld : t.led = !w.params.followText "set-order"
  pl : 0 < es.size → t.plain = false
def TSet (w : World) (a : Addr) (L : List Str) (h : Heap) : Prop := ∃ o es ep t, h.get? a = some o ∧ o.ExactSet ∧ o.data = .set es ep t ∧ TOk w es t L
theorem TSet.at {w : World} {a : Addr} {L : List Str} {h h' : Heap} (x : TSet w a L h) (k : ∀ o, h.get? a = some o → h'.get? a = some o) : TSet w a L h' := by
  obtain ⟨o, es, ep, t, e, r⟩ := x
  exact ⟨o, es, ep, t, k o e, r⟩
theorem TSet.ty {w : World} {a : Addr} {L : List Str} {s : Shared} (x : TSet w a L s.heap) : s.TypeIs (.ref a) "set" := by
  obtain ⟨o, _, _, _, e, hx, _⟩ := x
  exact ⟨o, e, hx.1⟩
theorem TSet.lt {w : World} {a : Addr} {L : List Str} {h : Heap} (x : TSet w a L h) : a < h.objs.size := by
  obtain ⟨o, _, _, _, e, _⟩ := x
  exact Heap.lt_size e
theorem TOk.elems {prog : Program} {w : World} {es : Array (Int × Value)} {t : SetTable} {L : List Str} (h : TOk w es t L) : ElemsOf (PySem.strKind prog w) es.toList := fun e he => by
  obtain ⟨x, tk, rfl⟩ := h.el e he
  exact ⟨⟨x, by simp [PySem.strKind, Value.isStrOf], rfl⟩, rfl⟩
theorem TOk.size {w : World} {es : Array (Int × Value)} {t : SetTable} {L : List Str} (h : TOk w es t L) : es.size = L.length := by
  have := h.pm.length_eq
  simpa using this
/-! ### what the table keeps -/
theorem led_or (t : SetTable) (n : Nat) : (t.orStandIn n).led = t.led := by
  unfold SetTable.orStandIn
  split <;> rfl
theorem led_lay (t : SetTable) (es : Array (Int × Value)) (h : Int) (x : Value) : (layNew t es h x).2.1.led = t.led := by
  unfold layNew
  split
  · exact led_or _ _
  · rfl
theorem relaid_keeps {t t' : SetTable} {hs : Array Int} {n : Nat} {o : Array Nat} (e : t.relaid hs n = some (t', o)) : t'.led = t.led ∧ t'.plain = t.plain := by
  unfold SetTable.relaid SetTable.laid at e
  cases hc : SetTable.layClean (SetTable.sizeAbove n - 1) hs with
  | none => rw [hc] at e; cases e
  | some ow =>
    rw [hc] at e
    cases e
    exact ⟨rfl, rfl⟩
theorem relay_keeps (t : SetTable) (es : Array (Int × Value)) (n : Nat) : (relayAll t es n).2.1.led = t.led ∧ (t.plain = false → (relayAll t es n).2.1.plain = false) := by
  unfold relayAll
  split
  · rename_i t' o e
    obtain ⟨h1, h2⟩ := relaid_keeps e
    dsimp only
    split
    · exact ⟨h1, fun h => h2.trans h⟩
    · exact ⟨rfl, fun _ => rfl⟩
  · exact ⟨rfl, fun _ => rfl⟩
section
variable {prog : Program} {w : World} {A : Around} {E : Value → Shared → Prop} {s : Shared}
theorem gaveA (b : Bool) {M : Model} {Q : Unit → Shared → Prop} (g : Q () s) : wpAny M A (match b with
    | true => rule "set.scan.the-table-gave-way"
    | false => pure ()) Q E s := by
  cases b
  · exact wpAny_pure g
  · exact wpAny_rule g
theorem lineOf {n : Nat} (h : n < scanBound) : n ≤ sizeLine := by
  have e : scanBound = 4096 := rfl
  rw [sizeLine_eq]
  omega
/-- the elements laid, and laid anew where the table is too full -/
theorem layA {gw : Bool → Sem Unit} (hg : ∀ (b : Bool) (s1 : Shared) (R : Unit → Shared → Prop), R () s1 → wpAny (model prog w) A (gw b) R E s1) {a : Addr} {o : Obj} {es es1 : Array (Int × Value)} {ep : Nat} {t t2 : SetTable} {L : List Str} (ho : s.heap.get? a = some o) (hx : o.ExactSet)
    (hd : o.data = .set es ep t) (ok : TOk w es1 t2 L) (hp2 : t2.plain = false) {wd : Bool} {R : Option Bool → Shared → Prop} (g : ∀ h', Heap.SameBut a s.heap h' → TSet w a L h' → R (some true) { s with heap := h' }) :
    wpAny (model prog w) A (storeSet a es1 t2 >>= fun _ => if (!wd && t2.tooFull) = true then (gw (relayAll t2 es1 (SetTable.grown es1.size)).2.2 >>= fun _ => storeSet a (relayAll t2 es1 (SetTable.grown es1.size)).1 (relayAll t2 es1 (SetTable.grown es1.size)).2.1 >>= fun _ => pure (some true)) else pure (some true)) R E s := by
  refine wpAny_bind (wpAny_storeSet_of ho hd ?_ (lineOf ok.bd))
  have o1 : (s.heap.update a (Obj.putSet es1 t2)).get? a = some { o with data := .set es1 (ep + 1) t2 } := by
    have z := Heap.get?_update_self (Obj.putSet es1 t2) ho (by rw [putSet_of es1 t2 hd]; rfl)
    rw [putSet_of es1 t2 hd] at z
    exact z
  have sb1 := Heap.SameBut.update s.heap a (Obj.putSet es1 t2)
  split
  · have hp := relayAll_perm t2 es1 (SetTable.grown es1.size)
    have hf := relayAll_fits t2 es1 (SetTable.grown es1.size)
    have hk := relay_keeps t2 es1 (SetTable.grown es1.size)
    generalize relayAll t2 es1 (SetTable.grown es1.size) = Z at hp hf hk ⊢
    obtain ⟨es2, t3, gv⟩ := Z
    dsimp only at hp hf hk ⊢
    have hsz : es2.size = es1.size := by
      have := hp.length_eq
      simpa using this
    have ok2 : TOk w es2 t3 L := ⟨fun e he => ok.el e (hp.mem_iff.mp he), (hp.map _).trans ok.pm, ok.nd, by rw [hsz]; exact ok.bd, hf, hk.1.trans ok.ld, fun _ => hk.2 hp2⟩
    refine wpAny_bind (hg _ _ _ ?_)
    refine wpAny_bind (wpAny_storeSet_of o1 rfl ?_ (lineOf ok2.bd))
    have o2 : ((s.heap.update a (Obj.putSet es1 t2)).update a (Obj.putSet es2 t3)).get? a = some { o with data := .set es2 (ep + 1 + 1) t3 } := by
      have z := Heap.get?_update_self (Obj.putSet es2 t3) o1 (by rw [putSet_of es2 t3 rfl]; rfl)
      rw [putSet_of es2 t3 rfl] at z
      exact z
    exact wpAny_pure (g _ (sb1.trans (Heap.SameBut.update _ a _)) ⟨_, es2, ep + 1 + 1, t3, o2, hx, rfl, ok2⟩)
  · exact wpAny_pure (g _ sb1 ⟨_, es1, ep + 1, t2, o1, hx, rfl, ok⟩)
theorem mem_txt {w : World} {es : Array (Int × Value)} {t : SetTable} {L : List Str} (ok : TOk w es t L) {x : Str} : (∃ e ∈ es.toList, Value.isStrOf x e.2 = true) ↔ x ∈ L := by
  rw [← ok.pm.mem_iff, List.mem_map]
  constructor
  · rintro ⟨e, he, h⟩
    obtain ⟨tk, h2⟩ := Value.isStrOf_shape h
    exact ⟨e, he, by rw [h2]; rfl⟩
  · rintro ⟨e, he, h⟩
    obtain ⟨y, tk, rfl⟩ := ok.el e he
    cases h
    exact ⟨_, he, by simp [Value.isStrOf, txt]⟩
/-- a text put into the set -/
theorem addT {a : Addr} {L : List Str} {x : Str} {tk : Tok} {Q : Bool → Shared → Prop} (hS : TSet w a L s.heap) (hr : L.length + 1 < scanBound)
    (g : ∀ (r : Bool) h', Heap.SameBut a s.heap h' → TSet w a (if x ∈ L then L else L ++ [x]) h' → Q r { s with heap := h' }) :
    wpAny (model prog w) A (setAddHashed a (.str x tk) ((PySem.strKind prog w).hash x)) Q E s := by
  obtain ⟨o, es, ep, t, ho, hx, hd, ok⟩ := hS
  have hel : ElemsOf (PySem.strKind prog w) es.toList := ok.elems
  have hkey : (PySem.strKind prog w).is x (.str x tk) = true := by simp [PySem.strKind, Value.isStrOf]
  have hsz := ok.size
  unfold setAddHashed setAddHashedIn
  refine wpAny_holding (wpAny_bind (wpAny_setState_of ho hd ok.ft ?_))
  dsimp only
  rw [byScan_of (knd := PySem.strKind prog w) (x := .str x tk) rfl ok.bd hel, if_pos rfl]
  refine wpAny_bind ?_
  unfold setAddByScan
  refine wpAny_bind (wpAny_rule (wpAny_bind (wpAny_setScan_of (knd := PySem.strKind prog w) hkey ho hd ok.ft hel ?_)))
  cases hq : List.findIdx? (fun e => (PySem.strKind prog w).is x e.2) es.toList with
  | some j =>
    dsimp only
    obtain ⟨hj, hpj, _⟩ := List.findIdx?_eq_some_iff_getElem.mp hq
    have hm : x ∈ L := (mem_txt ok).mp ⟨_, List.getElem_mem hj, hpj⟩
    refine wpAny_pure (wpAny_pure ?_)
    have := g false s.heap (Heap.SameBut.refl a s.heap) (by rw [if_pos hm]; exact ⟨o, es, ep, t, ho, hx, hd, ok⟩)
    exact this
  | none =>
    dsimp only
    have hm : x ∉ L := fun hm => by
      obtain ⟨e, he, h⟩ := (mem_txt ok).mpr hm
      have := List.findIdx?_eq_none_iff.mp hq e he
      have h' : (PySem.strKind prog w).is x e.2 = true := h
      rw [h'] at this
      cases this
    rw [if_neg hm] at g
    have hp := layNew_perm t es ((PySem.strKind prog w).hash x) (.str x tk)
    have hf := layNew_fits t es ((PySem.strKind prog w).hash x) (.str x tk)
    have hl := led_lay t es ((PySem.strKind prog w).hash x) (.str x tk)
    generalize layNew t es ((PySem.strKind prog w).hash x) (.str x tk) = Z at hp hf hl ⊢
    obtain ⟨es1, t1, wd, gv⟩ := Z
    dsimp only at hp hf hl ⊢
    rw [Array.toList_push] at hp
    have hs1 : es1.size = es.size + 1 := by
      have := hp.length_eq
      simpa using this
    have ok1 : ∀ t2 : SetTable, t2.fits es1.size = true → t2.led = t1.led → t2.plain = false → TOk w es1 t2 (L ++ [x]) := fun t2 f2 l2 p2 => by
      refine ⟨fun e he => ?_, ?_, ?_, ?_, f2, l2.trans (hl.trans ok.ld), fun _ => p2⟩
      · rcases List.mem_append.mp (hp.mem_iff.mp he) with he | he
        · exact ok.el e he
        · rw [List.mem_singleton.mp he]
          exact ⟨x, tk, rfl⟩
      · refine (hp.map _).trans ?_
        rw [List.map_append]
        exact ok.pm.append (.rfl)
      · rw [List.nodup_append]
        refine ⟨ok.nd, by simp, fun y hy z hz => ?_⟩
        rw [List.mem_singleton.mp hz]
        rintro rfl
        exact hm hy
      · rw [hs1, hsz]
        exact hr
    refine wpAny_bind (gaveA gv ?_)
    split
    · refine wpAny_bind (?_ : wpAny _ _ (hashByValue 8 (.str x tk)) _ _ _)
      rw [hashByValue_scannable 8 (x := .str x tk) rfl]
      refine wpAny_pure ?_
      refine layA (o := o) (fun b s1 R hR => gaveA b hR) ho hx hd (ok1 _ ?_ ?_ ?_) ?_ fun h' sb hS' => wpAny_pure (g true h' sb hS')
      · exact SetTable.fits_plain_off hf
      · rfl
      · rfl
      · rfl
    · rename_i hpl
      refine wpAny_bind (wpAny_pure ?_)
      have hpl' : t1.plain = false := by simpa using hpl
      exact layA (o := o) (fun b s1 R hR => gaveA b hR) ho hx hd (ok1 t1 hf rfl hpl') hpl' fun h' sb hS' => wpAny_pure (g true h' sb hS')
end
end TXS
end
section
set_option Elab.async false
set_option linter.all false
set_option maxRecDepth 100000
namespace TXS
open PySem PySem.Spec PyProof.Rows
/-- an empty set, as it is made -/
abbrev void (w : World) : Obj := { cls := .type "set", dict := none, data := .set #[] 0 (.fresh 0 0 (!w.params.followText "set-order")) }
theorem void_ok (w : World) : TOk w #[] (.fresh 0 0 (!w.params.followText "set-order")) [] :=
  ⟨fun e h => by simp at h, .rfl, by simp, by decide, rfl, rfl, fun h => by simp at h⟩
theorem void_set {w : World} (h : Heap) : TSet w h.objs.size [] (h.push (void w)) := ⟨_, _, _, _, Heap.get?_push_size _ rfl, ⟨rfl, rfl, rfl⟩, rfl, void_ok w⟩
section
variable {prog : Program} {w : World} {A : Around} {E : Value → Shared → Prop} {s : Shared}
theorem newX {Q : Value → Shared → Prop} (g : Q (.ref s.heap.objs.size) { s with heap := s.heap.push (void w) }) : codeAny (model prog w) A (.call (.builtin "set.__new__") ⟨[.type "set"], []⟩) (wants Q E) s := by
  refine codeAny_of_tree ?_
  change wpAny _ A.in1 (checkBuiltinCall "set.__new__" ⟨[.type "set"], []⟩ >>= fun _ => again (.builtin "set.__new__" ⟨[.type "set"], []⟩)) _ _ s
  refine wpAny_bind (wpAny_of_eq F.newCall_set_0 ?_)
  refine wpAny_pure ⟨plainId_quiet F.plain_set_new _, codeAny_builtin F.entry_set_new ?_⟩
  rw [Around.under_plainId F.plain_set_new _]
  unfold Builtin.«set.__new__»
  unfold Builtin.Frozenset.newClass
  have hsub := sub_set_self
  obtain ⟨hp, gs, d, tk, os⟩ := s
  dsimp only
  wp_walk
  refine wpAny_askSetting ?_
  refine wpAny_pure ?_
  dsimp only
  simp only [newObj]
  exact wpAny_bind (wpAny_alloc (wpAny_pure (wpAny_pure g)))
set_option maxHeartbeats 1000000 in
/-- set() -/
theorem callX {Q : Value → Shared → Prop} (g : Q (.ref s.heap.objs.size) { s with heap := s.heap.push (void w) }) : wpAny (model prog w) A (call (.type "set") []) Q E s := by
  obtain ⟨c, tl, hm1⟩ := F.called_set.mro
  have hm2 := F.called_set.made
  have hm3 := F.called_set.sub
  refine wpAny_call (codeAny_of_tree ?_)
  change wpAny _ _ (callAny (.type "set") _) _ _ _
  refine wpAny_pure ⟨Code.quiet_builtin _ (by decide +kernel), ?_⟩
  refine codeAny_builtin F.entry_type_call ?_
  rw [Around.under_plain (weight_type_call_type "set" [] []) rfl]
  have q1 := F.called_set.notType
  have q2 := F.called_set.canCreate
  have q3 := F.typeCall_set_0
  repeat (any_goals (first
    | assumption
    | wp_step))
  refine codeAny_mono (newX (E := E) (Q := fun v s1 => v = .ref s.heap.objs.size ∧ s1 = { s with heap := s.heap.push (void w) }) ⟨rfl, rfl⟩) fun r s1 hr => ?_
  cases r with
  | error e => exact hr
  | ok fl =>
    cases fl with
    | ret v =>
      obtain ⟨rfl, rfl⟩ := hr
      have e1 : (s.heap.push (void w)).get? s.heap.objs.size = some (void w) := Heap.get?_push_size _ rfl
      have e2 : Shared.TypeIs { s with heap := s.heap.push (void w) } (.ref s.heap.objs.size) "set" := ⟨_, e1, rfl⟩
      have e3 := F.called_set.init.lookup
      have e4 := F.called_set.init.bind (.ref s.heap.objs.size)
      repeat (any_goals (first
        | assumption
        | wp_step))
      refine codeAny_mono (codeAny_call_builtin (R := wants (fun r s2 => r = .none ∧ Q (.ref s.heap.objs.size) s2) E) F.called_set.init.plain F.entry_set_init (check_set_init e2 ?_)) fun r2 s2 hr2 => ?_
      · unfold Builtin.«set.__init__»
        unfold noKeywords
        wp_walk
        exact ⟨rfl, g⟩
      · cases r2 with
        | error e => exact hr2
        | ok f2 =>
          cases f2 with
          | ret r =>
            obtain ⟨rfl, hq⟩ := hr2
            repeat (any_goals (first
              | assumption
              | wp_step))
          | _ => exact hr2.elim
    | _ => exact hr.elim
end
end TXS
end
section
set_option Elab.async false
set_option linter.all false
set_option maxRecDepth 100000
namespace TXS
open PySem PySem.Spec PyProof.Rows
/-- the set as it stands while it is walked -/
def SetAt (h : Heap) (a : Addr) (es : Array (Int × Value)) (ep : Nat) (t : SetTable) : Prop := ∃ o, h.get? a = some o ∧ o.ExactSet ∧ o.data = .set es ep t ∧ t.fits es.size = true
theorem SetAt.at {h h' : Heap} {a : Addr} {es : Array (Int × Value)} {ep : Nat} {t : SetTable} (x : SetAt h a es ep t) (k : ∀ o, h.get? a = some o → h'.get? a = some o) : SetAt h' a es ep t := by
  obtain ⟨o, e, r⟩ := x
  exact ⟨o, k o e, r⟩
/-- the ways of a walk: by the text's order, by a drawn order, of one element or none -/
inductive Mode (w : World) (h : Heap) (a : Addr) (es : Array (Int × Value)) (ep : Nat) (t : SetTable) (i : Nat) : Value → List Value → Prop where
  | text {sl : Nat} : w.params.followText "set-order" = true → Mode w h a es ep t i (.int sl 0) ((pickOrder (w.params.setOrder a ep) es).toList.map (·.2))
  | drawn {b : Addr} {ns : List Nat} {l : List Value} : IsTup h b (ns.map fun (n : Nat) => rawInt n).toArray → l.length = ns.length → (∀ (j n : Nat), ns[j]? = some n → ∃ e : Int × Value, es[n]? = some e ∧ l[j]? = some e.2) → Mode w h a es ep t i (.ref b) l
  | one {sl : Nat} : w.params.followText "set-order" = false → es.size ≤ 1 → t.led = true → (i = 0 → sl = 0) → (0 < i → ∀ p, t.place[0]? = some p → sl = p + 1) → Mode w h a es ep t i (.int sl 0) (es.toList.map (·.2))
/-- the iterator it over the set at a, i of the list l told -/
def ItS (w : World) (h : Heap) (it a : Addr) (l : List Value) (i : Nat) : Prop := ∃ (oi : Obj) (es : Array (Int × Value)) (ep : Nat) (t : SetTable) (first : Value), h.get? it = some oi ∧ oi.cls = .type "set_iterator" ∧ oi.data = .fields #[first, .int i 0, .ref a, .int es.size 0, .int ep 0] ∧ SetAt h a es ep t ∧ a ≠ it ∧
  Mode w h a es ep t i first l ∧ (∀ b, first = .ref b → b ≠ it)
theorem below0 {xs : Array Nat} (h : xs.size = 0) (j : Nat) : SetTable.below xs j = 0 := by
  unfold SetTable.below
  rw [h]
  rfl
theorem below1 {xs : Array Nat} {p : Nat} (h : xs = #[p]) (j : Nat) : SetTable.below xs j = if p < j then 1 else 0 := by
  subst h
  unfold SetTable.below
  change SetTable.below.go #[p] j 1 0 1 = _
  unfold SetTable.below.go
  simp only [Nat.zero_add, Nat.zero_lt_one, if_true]
  change (if (#[p] : Array Nat).getD 0 j < j then SetTable.below.go #[p] j 0 1 1 else SetTable.below.go #[p] j 0 0 0) = _
  have e : (#[p] : Array Nat).getD 0 j = p := rfl
  rw [e]
  split <;> rfl
section
variable {prog : Program} {w : World} {A : Around} {E : Value → Shared → Prop} {s : Shared} {a : Addr} {es : Array (Int × Value)} {ep : Nat} {t : SetTable}
/-- the next one by the text's order -/
theorem nextT {sl i : Nat} {Q : Option (Value × Nat) → Shared → Prop} (hS : SetAt s.heap a es ep t) (hb : w.params.followText "set-order" = true)
    (g : Q ((((pickOrder (w.params.setOrder a ep) es).toList.map (·.2))[i]?).map fun v => (v, sl)) s) : wpAny (model prog w) A (setNext a sl i ep) Q E s := by
  obtain ⟨o, ho, hx, hd, hf⟩ := hS
  unfold setNext
  refine wpAny_bind (wpAny_setState_of ho hd hf ?_)
  dsimp only
  refine wpAny_bind ?_
  unfold setsByText
  refine wpAny_bind (wpAny_askSetting (wpAny_pure ?_))
  change wpAny _ _ (if w.params.followText "set-order" = true then _ else _) _ _ s
  rw [if_pos hb, if_neg (by simp)]
  refine wpAny_bind ?_
  unfold setWalk
  refine wpAny_bind (wpAny_setState_of ho hd hf ?_)
  dsimp only
  refine wpAny_bind ?_
  unfold setsByText
  refine wpAny_bind (wpAny_askSetting (wpAny_pure ?_))
  change wpAny _ _ (if w.params.followText "set-order" = true then _ else _) _ _ s
  rw [if_pos hb]
  refine wpAny_bind (wpAny_askSetting (wpAny_pure (wpAny_pure ?_)))
  have e : ((((pickOrder (w.params.setOrder a ep) es).toList.map (·.2))[i]?).map fun v => (v, sl)) = ((pickOrder (w.params.setOrder a ep) es)[i]?).map fun e => (e.2, sl) := by
    rw [List.getElem?_map, Option.map_map, Array.getElem?_toList]
    rfl
  rw [e] at g
  exact g
/-- .. of one element or none -/
theorem nextO {sl i : Nat} {Q : Option (Value × Nat) → Shared → Prop} (hS : SetAt s.heap a es ep t) (hb : w.params.followText "set-order" = false) (h1 : es.size ≤ 1) (hl : t.led = true)
    (g : Q (match es[SetTable.below t.place sl]?, t.place[SetTable.below t.place sl]? with
      | some (_, x), some j => some (x, j + 1)
      | _, _ => none) s) : wpAny (model prog w) A (setNext a sl i ep) Q E s := by
  obtain ⟨o, ho, hx, hd, hf⟩ := hS
  unfold setNext
  refine wpAny_bind (wpAny_setState_of ho hd hf ?_)
  dsimp only
  refine wpAny_bind ?_
  unfold setsByText
  refine wpAny_bind (wpAny_askSetting (wpAny_pure ?_))
  change wpAny _ _ (if w.params.followText "set-order" = true then _ else _) _ _ s
  rw [if_neg (by rw [hb]; exact Bool.false_ne_true)]
  change wpAny _ _ (if (!t.plain && decide (es.size > 1)) = true then _ else _) _ _ s
  rw [if_neg (by simp; omega)]
  refine wpAny_bind ?_
  change wpAny _ _ (if (!t.led && !es.isEmpty) = true then _ else _) _ _ s
  rw [if_neg (by rw [hl]; simp)]
  refine wpAny_pure ?_
  exact wpAny_pure g
end
end TXS
end
section
set_option Elab.async false
set_option linter.all false
set_option maxRecDepth 100000
namespace TXS
open PySem PySem.Spec PyProof.Rows
theorem ItS.ty {w : World} {s : Shared} {it a : Addr} {l : List Value} {i : Nat} (x : ItS w s.heap it a l i) : s.TypeIs (.ref it) "set_iterator" := by
  obtain ⟨oi, _, _, _, _, e, c, _⟩ := x
  exact ⟨oi, e, c⟩
theorem ItS.at {w : World} {h h' : Heap} {it a : Addr} {l : List Value} {i : Nat} (x : ItS w h it a l i) (k : ∀ b o, h.get? b = some o → h'.get? b = some o) : ItS w h' it a l i := by
  obtain ⟨oi, es, ep, t, first, e, c, d, hS, n, hm, hb⟩ := x
  refine ⟨oi, es, ep, t, first, k _ _ e, c, d, hS.at (k a), n, ?_, hb⟩
  cases hm with
  | text h => exact .text h
  | drawn h1 h2 h3 => exact .drawn (h1.keeps k) h2 h3
  | one h1 h2 h3 h4 h5 => exact .one h1 h2 h3 h4 h5
theorem one_of {xs : Array Nat} (h : xs.size = 1) : ∃ p, xs = #[p] := by
  obtain ⟨l⟩ := xs
  obtain ⟨p, e⟩ := List.length_eq_one_iff.mp (show l.length = 1 from h)
  exact ⟨p, by rw [e]⟩
/-- kept but at one other address -/
theorem ItS.but {w : World} {h h' : Heap} {it a c : Addr} {l : List Value} {i : Nat} (x : ItS w h it a l i) (k : ∀ b o, b ≠ c → h.get? b = some o → h'.get? b = some o) (n1 : it ≠ c) (n2 : a ≠ c) (n3 : ∀ b, (∃ o, h.get? b = some o ∧ o.cls = .type "tuple") → b ≠ c) : ItS w h' it a l i := by
  obtain ⟨oi, es, ep, t, first, e, cc, d, hS, n, hm, hb⟩ := x
  refine ⟨oi, es, ep, t, first, k _ _ n1 e, cc, d, hS.at fun o => k a o n2, n, ?_, hb⟩
  cases hm with
  | text h => exact .text h
  | drawn h1 h2 h3 =>
    obtain ⟨o, e1, e2, r⟩ := h1
    exact .drawn ⟨o, k _ o (n3 _ ⟨o, e1, e2⟩) e1, e2, r⟩ h2 h3
  | one h1 h2 h3 h4 h5 => exact .one h1 h2 h3 h4 h5
section
variable {prog : Program} {w : World} {A : Around} {E : Value → Shared → Prop} {s : Shared} {it a : Addr} {l : List Value} {i : Nat}
theorem fieldA {M : Model} {o : Obj} {vs : Array Value} {k : Nat} {x : Value} {Q : Unit → Shared → Prop} (ho : s.heap.get? it = some o) (hd : o.data = .fields vs) (hi : k < vs.size)
    (g : ∀ h' o', h'.get? it = some o' → o'.cls = o.cls → o'.data = .fields (vs.setIfInBounds k x) → Heap.SameBut it s.heap h' → Q () { s with heap := h' }) : wpAny M A (setField (.ref it) k x) Q E s :=
  wpAny_setField ho hd hi (g _ _ (Heap.get?_update_self _ ho (Obj.isFreed_of_fields (Obj.data_mapFields hd _))) (Obj.cls_mapFields ..) (Obj.data_mapFields hd _) (Heap.SameBut.update ..))
set_option maxHeartbeats 1000000 in
/-- the walk tells one more -/
theorem stepI {v : Value} {Q : Option Value → Shared → Prop} (hit : ItS w s.heap it a l i) (hv : l[i]? = some v) (g : ∀ h', ItS w h' it a l (i + 1) → Heap.SameBut it s.heap h' → Q (some v) { s with heap := h' }) : wpAny (model prog w) A (pyNext (.ref it)) Q E s := by
  have hT := hit.ty
  obtain ⟨oi, es, ep, t, first, ho, hc, hd, hS, hne, hm, hb⟩ := hit
  obtain ⟨os, hos, hsx, hsd, hsf⟩ := id hS
  cases hm with
  | @text sl hbt =>
    unfold pyNext
    refine wpAny_bind (wpAny_attempt ?_)
    refine wpAny_callSpecial?_slot (name := Str.ofString "__next__") hT slotN ?_
    refine wpAny_call_entry slotN hT entryN ?_ (argsN _)
    unfold Builtin.«set_iterator.__next__»
    refine wpAny_bind (wpAny_pure ?_)
    refine wpAny_bind (wpAny_fieldsOf ho hd ?_)
    dsimp only
    refine wpAny_bind (wpAny_setEntries_of hos hsd hsf ?_)
    rw [if_neg (by simp)]
    change wpAny _ _ (setNext a (Int.toNat (sl : Nat)) (Int.toNat (i : Nat)) (Int.toNat (ep : Nat)) >>= _) _ _ s
    rw [Int.toNat_natCast, Int.toNat_natCast, Int.toNat_natCast]
    refine wpAny_bind (nextT hS hbt ?_)
    rw [hv]
    dsimp only [Option.map_some]
    refine wpAny_bind (fieldA ho hd (by simp) fun h1 o1 e1 c1 d1 b1 => ?_)
    refine wpAny_bind (fieldA (s := { s with heap := h1 }) e1 d1 (by simp) fun h2 o2 e2 c2 d2 b2 => ?_)
    have sb := b1.trans b2
    refine wpAny_pure ⟨_, rfl, wpAny_pure (g h2 ⟨o2, es, ep, t, rawInt sl, e2, (c2.trans c1).trans hc, by rw [d2]; simp [rawInt], hS.at fun o e => sb.extBut a o hne e, hne, .text hbt, fun b h => by cases h⟩ sb)⟩
  | @drawn b ns l htp hln hat =>
    unfold pyNext
    refine wpAny_bind (wpAny_attempt ?_)
    refine wpAny_callSpecial?_slot (name := Str.ofString "__next__") hT slotN ?_
    refine wpAny_call_entry slotN hT entryN ?_ (argsN _)
    unfold Builtin.«set_iterator.__next__»
    refine wpAny_bind (wpAny_pure ?_)
    refine wpAny_bind (wpAny_fieldsOf ho hd ?_)
    dsimp only
    refine wpAny_bind (wpAny_setEntries_of hos hsd hsf ?_)
    rw [if_neg (by simp)]
    obtain ⟨ob, hob, hobc, nb, hobd⟩ := id htp
    refine wpAny_bind (wpAny_seqItems hob hobd ?_)
    dsimp only
    have hi : i < ns.length := by
      rw [← hln]
      exact (List.getElem?_eq_some_iff.mp hv).1
    obtain ⟨e, hes, hle⟩ := hat i ns[i] (by simp [hi])
    rw [hv] at hle
    cases hle
    have hpl : (ns.map fun (n : Nat) => rawInt n).toArray[Int.toNat (i : Nat)]? = some (rawInt (ns[i] : Nat)) := by simp [hi]
    rw [hpl]
    dsimp only [rawInt]
    refine wpAny_bind ?_
    unfold setNextDrawn
    refine wpAny_bind (wpAny_setState_of hos hsd hsf ?_)
    dsimp only
    rw [if_neg (by simp), Int.toNat_natCast, hes]
    refine wpAny_pure ?_
    refine wpAny_bind (fieldA ho hd (by simp) fun h1 o1 e1 c1 d1 sb => ?_)
    exact wpAny_pure ⟨_, rfl, wpAny_pure (g h1 ⟨o1, es, ep, t, .ref b, e1, c1.trans hc, by rw [d1]; simp [rawInt], hS.at fun o e => sb.extBut a o hne e, hne, .drawn ⟨ob, sb.extBut b ob (hb b rfl) hob, hobc, nb, hobd⟩ hln hat, hb⟩ sb)⟩
  | @one sl hbt h1s hled h0 h1 =>
    unfold pyNext
    refine wpAny_bind (wpAny_attempt ?_)
    refine wpAny_callSpecial?_slot (name := Str.ofString "__next__") hT slotN ?_
    refine wpAny_call_entry slotN hT entryN ?_ (argsN _)
    unfold Builtin.«set_iterator.__next__»
    refine wpAny_bind (wpAny_pure ?_)
    refine wpAny_bind (wpAny_fieldsOf ho hd ?_)
    dsimp only
    refine wpAny_bind (wpAny_setEntries_of hos hsd hsf ?_)
    rw [if_neg (by simp)]
    change wpAny _ _ (setNext a (Int.toNat (sl : Nat)) (Int.toNat (i : Nat)) (Int.toNat (ep : Nat)) >>= _) _ _ s
    rw [Int.toNat_natCast, Int.toNat_natCast, Int.toNat_natCast]
    refine wpAny_bind (nextO hS hbt h1s hled ?_)
    have hi : i < es.size := by simpa using (List.getElem?_eq_some_iff.mp hv).1
    have hi0 : i = 0 := by omega
    subst hi0
    cases h0 rfl
    have hps : t.place.size = 1 := by
      simp only [SetTable.fits, Bool.and_eq_true, beq_iff_eq] at hsf
      omega
    obtain ⟨p, hp⟩ := one_of hps
    have hbl : SetTable.below t.place 0 = 0 := by rw [below1 hp]; simp
    have hp0 : t.place[0]? = some p := by rw [hp]; rfl
    obtain ⟨eh, ev, hes⟩ : ∃ eh ev, es[0]? = some (eh, ev) := ⟨es[0].1, es[0].2, by simp [hi]⟩
    have hvv : v = ev := by
      rw [List.getElem?_map, Array.getElem?_toList, hes] at hv
      cases hv
      rfl
    rw [hbl, hes, hp0]
    dsimp only
    refine wpAny_bind (fieldA ho hd (by simp) fun h1 o1 e1 c1 d1 b1 => ?_)
    refine wpAny_bind (fieldA (s := { s with heap := h1 }) e1 d1 (by simp) fun h2 o2 e2 c2 d2 b2 => ?_)
    have sb := b1.trans b2
    subst hvv
    refine wpAny_pure ⟨_, rfl, wpAny_pure (g h2 ⟨o2, es, ep, t, rawInt (p + 1 : Nat), e2, (c2.trans c1).trans hc, by rw [d2]; simp [rawInt], hS.at fun o e => sb.extBut a o hne e, hne, .one hbt h1s hled (fun h => by omega) (fun _ q hq => by rw [hp] at hq; simp at hq; omega), fun b h => by cases h⟩ sb)⟩
set_option maxHeartbeats 1000000 in
/-- the walk ends -/
theorem stopI {Q : Option Value → Shared → Prop} (hh : A.handled = none) (hit : ItS w s.heap it a l i) (hv : l[i]? = none) (g : ∀ h', Heap.ExtBut it s.heap h' → Q none { s with heap := h' }) : wpAny (model prog w) A (pyNext (.ref it)) Q E s := by
  have hT := hit.ty
  obtain ⟨oi, es, ep, t, first, ho, hc, hd, hS, hne, hm, hb⟩ := hit
  obtain ⟨os, hos, hsx, hsd, hsf⟩ := id hS
  cases hm with
  | @text sl hbt =>
    unfold pyNext
    refine wpAny_bind (wpAny_attempt ?_)
    refine wpAny_callSpecial?_slot (name := Str.ofString "__next__") hT slotN ?_
    refine wpAny_call_entry slotN hT entryN ?_ (argsN _)
    unfold Builtin.«set_iterator.__next__»
    refine wpAny_bind (wpAny_pure ?_)
    refine wpAny_bind (wpAny_fieldsOf ho hd ?_)
    dsimp only
    refine wpAny_bind (wpAny_setEntries_of hos hsd hsf ?_)
    rw [if_neg (by simp)]
    change wpAny _ _ (setNext a (Int.toNat (sl : Nat)) (Int.toNat (i : Nat)) (Int.toNat (ep : Nat)) >>= _) _ _ s
    rw [Int.toNat_natCast, Int.toNat_natCast, Int.toNat_natCast]
    refine wpAny_bind (nextT hS hbt ?_)
    rw [hv]
    dsimp only [Option.map_none]
    refine wpAny_bind (fieldA ho hd (by simp) fun h1 o1 e1 c1 d1 sb => ?_)
    refine wpAny_bind ?_
    simp only [newExc, newTuple]
    refine wpAny_bind ?_
    refine wpAny_newObj_type ?_ (by size_fits)
    refine wpAny_bind (m := firstArgMember _ _) ?_
    refine wpAny_of_eq (a := Value.none) (by
      first
        | rfl
        | (simp only [firstArgMember]; rfl)) ?_
    refine wpAny_newObj_type ?_ ?_
    · simp only [raiseNew]
      refine wpAny_bind ?_
      refine wpAny_handled ?_
      rw [show A.in1.handled = none from hh]
      refine wpAny_bind (wpAny_pure ?_)
      refine wpAny_throw ?_
      refine wpAny_bind ?_
      refine wpAny_isInstance (T := "StopIteration") (b := true) ⟨_, Heap.get?_push_size _ rfl, rfl⟩ isSubtype_stop ?_
      exact wpAny_pure (g _ ((sb.extBut.push _).push _))
    · size_fits
  | @drawn b ns l htp hln hat =>
    unfold pyNext
    refine wpAny_bind (wpAny_attempt ?_)
    refine wpAny_callSpecial?_slot (name := Str.ofString "__next__") hT slotN ?_
    refine wpAny_call_entry slotN hT entryN ?_ (argsN _)
    unfold Builtin.«set_iterator.__next__»
    refine wpAny_bind (wpAny_pure ?_)
    refine wpAny_bind (wpAny_fieldsOf ho hd ?_)
    dsimp only
    refine wpAny_bind (wpAny_setEntries_of hos hsd hsf ?_)
    rw [if_neg (by simp)]
    obtain ⟨ob, hob, hobc, nb, hobd⟩ := id htp
    refine wpAny_bind (wpAny_seqItems hob hobd ?_)
    dsimp only
    have hi : ns.length ≤ i := by
      rw [← hln]
      exact List.getElem?_eq_none_iff.mp hv
    have hpl : (ns.map fun (n : Nat) => rawInt n).toArray[Int.toNat (i : Nat)]? = none := by simp [hi]
    rw [hpl]
    dsimp only
    refine wpAny_bind (fieldA ho hd (by simp) fun h1 o1 e1 c1 d1 b1 => ?_)
    refine wpAny_bind (fieldA (s := { s with heap := h1 }) e1 d1 (by simp) fun h2 o2 e2 c2 d2 b2 => ?_)
    have sb := b1.trans b2
    refine wpAny_bind ?_
    simp only [newExc, newTuple]
    refine wpAny_bind ?_
    refine wpAny_newObj_type ?_ (by size_fits)
    refine wpAny_bind (m := firstArgMember _ _) ?_
    refine wpAny_of_eq (a := Value.none) (by
      first
        | rfl
        | (simp only [firstArgMember]; rfl)) ?_
    refine wpAny_newObj_type ?_ ?_
    · simp only [raiseNew]
      refine wpAny_bind ?_
      refine wpAny_handled ?_
      rw [show A.in1.handled = none from hh]
      refine wpAny_bind (wpAny_pure ?_)
      refine wpAny_throw ?_
      refine wpAny_bind ?_
      refine wpAny_isInstance (T := "StopIteration") (b := true) ⟨_, Heap.get?_push_size _ rfl, rfl⟩ isSubtype_stop ?_
      exact wpAny_pure (g _ ((sb.extBut.push _).push _))
    · size_fits
  | @one sl hbt h1s hled h0 h1 =>
    unfold pyNext
    refine wpAny_bind (wpAny_attempt ?_)
    refine wpAny_callSpecial?_slot (name := Str.ofString "__next__") hT slotN ?_
    refine wpAny_call_entry slotN hT entryN ?_ (argsN _)
    unfold Builtin.«set_iterator.__next__»
    refine wpAny_bind (wpAny_pure ?_)
    refine wpAny_bind (wpAny_fieldsOf ho hd ?_)
    dsimp only
    refine wpAny_bind (wpAny_setEntries_of hos hsd hsf ?_)
    rw [if_neg (by simp)]
    change wpAny _ _ (setNext a (Int.toNat (sl : Nat)) (Int.toNat (i : Nat)) (Int.toNat (ep : Nat)) >>= _) _ _ s
    rw [Int.toNat_natCast, Int.toNat_natCast, Int.toNat_natCast]
    refine wpAny_bind (nextO hS hbt h1s hled ?_)
    have hi : es.size ≤ i := by simpa using List.getElem?_eq_none_iff.mp hv
    have hps : t.place.size = es.size := by
      simp only [SetTable.fits, Bool.and_eq_true, beq_iff_eq] at hsf
      exact hsf.1
    have hnone : es[SetTable.below t.place sl]? = none := by
      by_cases hz : es.size = 0
      · simp [hz]
      · have hz1 : es.size = 1 := by omega
        obtain ⟨p, hp⟩ := one_of (hps.trans hz1)
        have hsl := h1 (by omega) p (by rw [hp]; rfl)
        rw [below1 hp, if_pos (by omega)]
        simp [hz1]
    rw [hnone]
    dsimp only
    refine wpAny_bind (fieldA ho hd (by simp) fun h1 o1 e1 c1 d1 sb => ?_)
    refine wpAny_bind ?_
    simp only [newExc, newTuple]
    refine wpAny_bind ?_
    refine wpAny_newObj_type ?_ (by size_fits)
    refine wpAny_bind (m := firstArgMember _ _) ?_
    refine wpAny_of_eq (a := Value.none) (by
      first
        | rfl
        | (simp only [firstArgMember]; rfl)) ?_
    refine wpAny_newObj_type ?_ ?_
    · simp only [raiseNew]
      refine wpAny_bind ?_
      refine wpAny_handled ?_
      rw [show A.in1.handled = none from hh]
      refine wpAny_bind (wpAny_pure ?_)
      refine wpAny_throw ?_
      refine wpAny_bind ?_
      refine wpAny_isInstance (T := "StopIteration") (b := true) ⟨_, Heap.get?_push_size _ rfl, rfl⟩ isSubtype_stop ?_
      exact wpAny_pure (g _ ((sb.extBut.push _).push _))
    · size_fits
end
end TXS
end
section
set_option Elab.async false
set_option linter.all false
set_option maxRecDepth 100000
namespace TXS
open PySem PySem.Spec PyProof.Rows
/-- the values are texts, these in some order -/
structure Told (l : List Value) (L : List Str) : Prop where
  is : StrsAre l (l.map strOf)
  pm : (l.map strOf).Perm L
theorem told_of {w : World} {es : Array (Int × Value)} {t : SetTable} {L : List Str} (ok : TOk w es t L) {l : List Value} (hp : l.Perm (es.toList.map (·.2))) : Told l L := by
  refine ⟨strsAre_map l fun v hv => ?_, ?_⟩
  · obtain ⟨e, he, rfl⟩ := List.mem_map.mp (hp.mem_iff.mp hv)
    obtain ⟨x, tk, rfl⟩ := ok.el e he
    exact ⟨x, tk, rfl⟩
  · refine (hp.map strOf).trans ?_
    have e : (es.toList.map (·.2)).map strOf = es.toList.map fun e => txt e.2 := by
      rw [List.map_map]
      refine List.map_congr_left fun e he => ?_
      obtain ⟨x, tk, rfl⟩ := ok.el e he
      rfl
    rw [e]
    exact ok.pm
theorem range_perm {es : Array (Int × Value)} {ns : List Nat} (hp : ns.Perm (List.range es.size)) : (ns.map fun n => (es.getD n (0, .none)).2).Perm (es.toList.map (·.2)) := by
  refine (hp.map _).trans ?_
  have e : (List.range es.size).map (fun n => (es.getD n (0, Value.none)).2) = es.toList.map (·.2) := by
    apply List.ext_getElem
    · simp
    · intro i h1 h2
      have h1' : i < es.size := by simpa using h1
      simp [h1']
  rw [e]
section
variable {prog : Program} {w : World} {A : Around} {E : Value → Shared → Prop} {s : Shared} {a : Addr} {L : List Str}
set_option maxHeartbeats 1000000 in
/-- iter(set) -/
theorem iterI {Q : Value → Shared → Prop} (hS : TSet w a L s.heap)
    (g : ∀ (it : Addr) (l : List Value) (h' : Heap) (d : Drawn), (∀ b o, s.heap.get? b = some o → h'.get? b = some o) → s.heap.objs.size ≤ it → ItS w h' it a l 0 → Told l L → Q (.ref it) { s with heap := h', drawn := d }) :
    wpAny (model prog w) A (pyIter (.ref a)) Q E s := by
  have hT := hS.ty
  have hlt := hS.lt
  obtain ⟨o, es, ep, t, ho, hx, hd, ok⟩ := hS
  refine wpAny_pyIter_slot hT F.slot_set_iter (wpAny_call_entry F.slot_set_iter hT entryI ?_ (F.args_set_iter_1 _))
  unfold Builtin.«frozenset.__iter__» Builtin.Frozenset.slot0 slotArgs
  simp only [List.isEmpty_nil, Bool.not_true, Bool.false_eq_true, if_false, bind_assoc, List.length_nil, bne_self_eq_false]
  unfold Builtin.Frozenset.addrOf
  refine wpAny_bind (wpAny_pure ?_)
  try dsimp only
  refine wpAny_bind (wpAny_pure ?_)
  unfold Builtin.Frozenset.sizeOf
  refine wpAny_bind (wpAny_bind (wpAny_setEntries_of ho hd ok.ft (wpAny_pure ?_)))
  refine wpAny_bind ?_
  unfold setDrawn
  refine wpAny_bind (wpAny_setState_of ho hd ok.ft ?_)
  dsimp only
  refine wpAny_bind ?_
  unfold setsByText
  refine wpAny_bind (wpAny_askSetting (wpAny_pure (wpAny_pure ?_)))
  change wpAny _ _ (if (!w.params.followText "set-order" && (!t.plain && decide (es.size > 1))) = true then _ else _) _ _ s
  cases hb : w.params.followText "set-order" with
  | true =>
    rw [if_neg (by simp)]
    refine wpAny_bind (wpAny_pure ?_)
    refine wpAny_bind (wpAny_setEpoch_of ho hd ok.ft ?_)
    unfold newFields
    refine wpAny_bind (wpAny_newObj_type ?_ (by size_fits))
    refine wpAny_pure ⟨_, rfl, "set_iterator", _, ⟨_, Heap.get?_push_size _ rfl, rfl⟩, slotN.lookup, ?_⟩
    refine g s.heap.objs.size _ _ s.drawn (fun b o e => Heap.get?_push_of_some _ e) (Nat.le_refl _) ⟨_, es, ep, t, rawInt 0, Heap.get?_push_size _ rfl, rfl, rfl, ⟨o, Heap.get?_push_of_some _ ho, hx, hd, ok.ft⟩, Nat.ne_of_lt hlt, .text (sl := 0) hb, fun b h => by cases h⟩ (told_of ok ((pickPerm _ _).map _))
  | false =>
    by_cases h1 : es.size > 1
    · have hpl := ok.pl (by omega)
      rw [if_pos (by simp [hpl, h1])]
      refine wpAny_bind ?_
      refine drawA es.size (List.range es.size) (by simp) fun ns d hp => ?_
      have hns : ns.length = es.size := by
        have := hp.length_eq
        simpa using this
      refine wpAny_bind (wpAny_newTuple ?_ (by rw [List.length_map, hns]; exact lineOf ok.bd))
      refine wpAny_bind ?_
      have ho1 : (s.heap.push { cls := .type "tuple", data := .seq (ns.map fun (i : Nat) => rawInt i).toArray }).get? a = some o := Heap.get?_push_of_some _ ho
      refine wpAny_setEpoch_of ho1 hd ok.ft ?_
      unfold newFields
      refine wpAny_bind (wpAny_newObj_type ?_ (by size_fits))
      refine wpAny_pure ⟨_, rfl, "set_iterator", _, ⟨_, Heap.get?_push_size _ rfl, rfl⟩, slotN.lookup, ?_⟩
      have hsz : (s.heap.push { cls := .type "tuple", data := .seq (ns.map fun (i : Nat) => rawInt i).toArray }).objs.size = s.heap.objs.size + 1 := Heap.size_push ..
      refine g _ (ns.map fun n => (es.getD n (0, .none)).2) _ d (fun b o e => Heap.get?_push_of_some _ (Heap.get?_push_of_some _ e)) ?_ ⟨_, es, ep, t, .ref s.heap.objs.size, Heap.get?_push_size _ rfl, rfl, rfl, ⟨o, Heap.get?_push_of_some _ ho1, hx, hd, ok.ft⟩, ?_, ?_, fun b h => ?_⟩ (told_of ok (range_perm hp))
      · change s.heap.objs.size ≤ (s.heap.push _).objs.size
        rw [hsz]; omega
      · change a ≠ (s.heap.push _).objs.size
        rw [hsz]
        exact Nat.ne_of_lt (Nat.lt_succ_of_lt hlt)
      · refine .drawn (ns := ns) ⟨_, Heap.get?_push_of_some _ (Heap.get?_push_size _ rfl), rfl, 0, rfl⟩ (by simp) fun j n hj => ?_
        have hn : n < es.size := by
          have : n ∈ List.range es.size := hp.mem_iff.mp (List.mem_of_getElem? hj)
          simpa using this
        exact ⟨es[n], by simp [hn], by rw [List.getElem?_map, hj]; simp [hn]⟩
      · cases h
        change s.heap.objs.size ≠ (s.heap.push _).objs.size
        rw [hsz]; omega
    · rw [if_neg (by simp [h1])]
      refine wpAny_bind (wpAny_pure ?_)
      refine wpAny_bind (wpAny_setEpoch_of ho hd ok.ft ?_)
      unfold newFields
      refine wpAny_bind (wpAny_newObj_type ?_ (by size_fits))
      refine wpAny_pure ⟨_, rfl, "set_iterator", _, ⟨_, Heap.get?_push_size _ rfl, rfl⟩, slotN.lookup, ?_⟩
      refine g s.heap.objs.size _ _ s.drawn (fun b o e => Heap.get?_push_of_some _ e) (Nat.le_refl _) ⟨_, es, ep, t, rawInt 0, Heap.get?_push_size _ rfl, rfl, rfl, ⟨o, Heap.get?_push_of_some _ ho, hx, hd, ok.ft⟩, Nat.ne_of_lt hlt, .one (sl := 0) hb (by omega) (by rw [ok.ld, hb]; rfl) (fun _ => rfl) (fun h => by omega), fun b h => by cases h⟩ (told_of ok .rfl)
set_option maxHeartbeats 1000000 in
/-- the walk into a list -/
theorem loopI (hh : A.handled = none) {S it : Addr} (n1 : S ≠ it) (n2 : S ≠ a) (res : Value) {l : List Value} (hl : l.length ≤ sizeLine) {R : Result → Shared → Prop} : ∀ (k i : Nat) (s : Shared) (acc : Array Value) (c : Nat), l.length - i = k → i ≤ l.length → ItS w s.heap it a l i →
    s.heap.get? S = some (seqObj "list" acc c) → acc.toList = l.take i → (∀ h' acc' c', (∀ b o, b ≠ S → b ≠ it → s.heap.get? b = some o → h'.get? b = some o) → h'.get? S = some (seqObj "list" acc' c') → acc'.toList = l → R (.ok (.ret res)) { s with heap := h' }) →
    codeAny (model prog w) A (.builtin "list.extend.loop" ⟨[.ref S, .ref it, res], []⟩) R s
  | 0, i, s, acc, c, hk, hi, hit, hS, ha, hR => by
    have hin : i = l.length := by omega
    refine codeAny_builtin F.entry_extend_loop ?_
    rw [Around.under_plainId F.plain_extend_loop _]
    change wpAny _ A.in1 (pyNext (.ref it) >>= _) _ _ s
    refine wpAny_bind (stopI (A := A.in1) hh hit (by simp [hin]) fun h' kp => ?_)
    refine wpAny_pure (hR h' acc c (fun b o _ hb e => kp b o hb e) (kp S _ n1 hS) ?_)
    rw [ha, hin, List.take_length]
  | k + 1, i, s, acc, c, hk, hi, hit, hS, ha, hR => by
    have hlt : i < l.length := by omega
    have hsz : acc.size = i := by
      rw [← Array.length_toList, ha, List.length_take]
      omega
    refine codeAny_builtin F.entry_extend_loop ?_
    rw [Around.under_plainId F.plain_extend_loop _]
    change wpAny _ A.in1 (pyNext (.ref it) >>= _) _ _ s
    refine wpAny_bind (stepI (A := A.in1) (v := l[i]) hit (by simp [hlt]) fun h' hit' sb => ?_)
    have hS' : h'.get? S = some (seqObj "list" acc c) := sb.extBut S _ n1 hS
    change wpAny _ A.in1 (updateSeq S (·.push l[i]) >>= _) _ _ _
    refine wpAny_bind (wpAny_updateSeq hS' rfl ?_ ?_ ?_)
    · have e2 := get?_update_seq hS' (fun xs => xs.push l[i])
      have kp2 : ∀ b o, b ≠ S → h'.get? b = some o → (h'.update S (Obj.mapSeq fun xs => xs.push l[i])).get? b = some o := fun b o hb e => (Heap.get?_update_other _ _ (Ne.symm hb)).trans e
      refine wpAny_pure ⟨plainId_quiet F.plain_extend_loop _, ?_⟩
      refine loopI hh n1 n2 res hl k (i + 1) _ (acc.push l[i]) _ (by omega) hlt (hit'.but kp2 (Ne.symm n1) (Ne.symm n2) fun b ⟨o, e, hc⟩ hb => ?_) e2 (by rw [Array.toList_push, ha, List.take_succ, List.getElem?_eq_getElem hlt]; rfl) fun h2 acc' c' kp3 e3 e4 => ?_
      · subst hb
        rw [hS'] at e
        cases e
        exact absurd (show Value.type "list" = Value.type "tuple" from hc) (by decide)
      · exact hR h2 acc' c' (fun b o hb hb2 e => kp3 b o hb hb2 (kp2 b o hb (sb.extBut b o hb2 e))) e3 e4
    · rw [hsz]; omega
    · change (acc.push l[i]).size ≤ sizeLine + 1
      rw [Array.size_push, hsz]; omega
theorem hintI {Q : Bool → Shared → Prop} (hT : s.TypeIs (.ref a) "set") (g : Q false s) : wpAny (model prog w) A (Builtin.List.listLengthHint (.ref a)) Q E s := by
  unfold Builtin.List.listLengthHint
  refine wpAny_bind (wpAny_specialOf hT F.slot_set_len.lookup ?_)
  generalize hid : ("set.__len__" : String) = id0
  wp_delta
  rw [show splitId id0 = some ("set", "__len__") from by
    subst hid
    decide +kernel]
  subst hid
  refine wpAny_bind (wpAny_isInstance (T := "set") (b := true) hT (by rw [isSubtype_type]; kernel_rfl) ?_)
  refine wpAny_ite_split (fun z => absurd z (by decide)) fun _ => ?_
  refine wpAny_ite_split (fun _ => ?_) fun z => absurd (by decide +kernel) z
  exact wpAny_bind (wpAny_typeOf hT (wpAny_pure g))
set_option maxHeartbeats 1000000 in
/-- the set, told as a list -/
theorem collI (hh : A.handled = none) {R : List Value → Shared → Prop} (hS : TSet w a L s.heap) (g : ∀ (h' : Heap) (d : Drawn) (l : List Value), (∀ b o, s.heap.get? b = some o → h'.get? b = some o) → Told l L → R l { s with heap := h', drawn := d }) : wpAny (model prog w) A (collect (.ref a)) R E s := by
  have hlt := hS.lt
  have hLn : L.length < scanBound := by
    obtain ⟨_, es, _, t, _, _, _, ok⟩ := hS
    rw [← ok.size]
    exact ok.bd
  have n2 : s.heap.objs.size ≠ a := Nat.ne_of_gt hlt
  unfold collect
  refine wpAny_bind (wpAny_runValue (codeAny_builtin F.entry_proto_collect ?_))
  rw [Around.under_plainId F.plain_proto_collect _]
  change wpAny _ A.in1 (newList [] >>= fun l => again (.builtin "list.__iadd__" ⟨[l, .ref a], []⟩)) _ _ s
  refine wpAny_bind (wpAny_newObj_type ?_)
  refine wpAny_pure ⟨plainId_quiet F.plain_list_iadd _, ?_⟩
  refine codeAny_builtin F.entry_list_iadd ?_
  rw [Around.under_plainId F.plain_list_iadd _]
  have kp0 : ∀ b o, s.heap.get? b = some o → (s.heap.push (seqObj "list" #[] 0)).get? b = some o := fun b o e => Heap.get?_push_of_some _ e
  have hS1 : TSet w a L (s.heap.push (seqObj "list" #[] 0)) := hS.at (kp0 a)
  have hA : (s.heap.push (seqObj "list" #[] 0)).get? s.heap.objs.size = some (seqObj "list" #[] 0) := Heap.get?_push_size _ rfl
  change wpAny _ A.in1 (Builtin.List.listExtendWith (.ref s.heap.objs.size) (.ref a) (.ref s.heap.objs.size)) _ _ { s with heap := s.heap.push (seqObj "list" #[] 0) }
  unfold Builtin.List.listExtendWith
  refine wpAny_bind (wpAny_typeOf (s := { s with heap := s.heap.push (seqObj "list" #[] 0) }) hS1.ty ?_)
  rw [if_neg (by simp [Builtin.List.listSameRef, n2])]
  refine wpAny_bind (iterI (s := { s with heap := s.heap.push (seqObj "list" #[] 0) }) hS1 fun it l h1 d kp1 hge hit told => ?_)
  have n1 : s.heap.objs.size ≠ it := by
    have hge' : s.heap.objs.size + 1 ≤ it := by
      have : (s.heap.push (seqObj "list" #[] 0)).objs.size ≤ it := hge
      rwa [Heap.size_push] at this
    exact Nat.ne_of_lt hge'
  have hll : l.length ≤ sizeLine := by
    have := told.pm.length_eq
    rw [List.length_map] at this
    rw [this]
    exact lineOf hLn
  have hA1 := kp1 _ _ hA
  have fin : ∀ (h2 : Heap) (c : Nat), (∀ b o, b ≠ s.heap.objs.size → h1.get? b = some o → h2.get? b = some o) → h2.get? s.heap.objs.size = some (seqObj "list" #[] c) →
      codeAny (model prog w) A (.builtin "list.extend.loop" ⟨[.ref s.heap.objs.size, .ref it, .ref s.heap.objs.size], []⟩) (fun q s' => match q with
        | .ok (.ret v) => wpAny (model prog w) A (match v with
          | .ref b => load b >>= fun o => match o.data with
            | .seq xs _ => pure xs.toList
            | _ => unsupported "internal:collect"
          | _ => unsupported "internal:collect") R E s'
        | .ok _ => False
        | .error e => E e s') { s with heap := h2, drawn := d } := by
    intro h2 c kp2 e2
    refine loopI hh n1 n2 _ hll l.length 0 _ #[] c rfl (Nat.zero_le _) ((hit).but kp2 (Ne.symm n1) (Ne.symm n2) fun b ⟨o, e, hc⟩ hb => ?_) e2 rfl fun h3 acc c3 kp3 e3 e4 => ?_
    · subst hb
      rw [hA1] at e
      cases e
      exact absurd hc (by decide)
    · dsimp only
      refine wpAny_bind (wpAny_load e3 ?_)
      refine wpAny_pure ?_
      rw [e4]
      exact g h3 d l (fun b o e => kp3 b o (Nat.ne_of_lt (Heap.lt_size e)) (fun z => by
        subst z
        exact absurd (Heap.lt_size e) (Nat.not_lt.mpr (Nat.le_trans (Nat.le_succ _) (by have : (s.heap.push (seqObj "list" #[] 0)).objs.size ≤ b := hge
                                                                                        rwa [Heap.size_push] at this)))) (kp2 b o (Nat.ne_of_lt (Heap.lt_size e)) (kp1 b o (kp0 b o e)))) told
  refine wpAny_bind (wpAny_holding (hintI (hS1.at (kp1 a)).ty ?_))
  refine wpAny_ite_split (fun _ => ?_) fun _ => ?_
  · refine wpAny_bind (wpAny_rule ?_)
    refine wpAny_bind ?_
    change wpAny _ _ (updateSeq s.heap.objs.size (·.push .none) >>= fun _ => updateSeq s.heap.objs.size (·.pop)) _ _ _
    refine wpAny_bind (wpAny_updateSeq hA1 rfl ?_)
    have e2 := get?_update_seq hA1 (fun xs => xs.push Value.none)
    refine wpAny_updateSeq (hz := by seq_fits) e2 rfl ?_
    have e3 := get?_update_seq e2 (fun xs => xs.pop)
    refine wpAny_pure ⟨plainId_quiet F.plain_extend_loop _, fin _ _ (fun b o hb e => ?_) e3⟩
    exact (Heap.get?_update_other _ _ (Ne.symm hb)).trans ((Heap.get?_update_other _ _ (Ne.symm hb)).trans e)
  · exact wpAny_pure ⟨plainId_quiet F.plain_extend_loop _, fin _ _ (fun b o hb e => e) hA1⟩
end
end TXS
end
section
set_option Elab.async false
set_option linter.all false
set_option maxRecDepth 100000
namespace TXS
open PySem PySem.Spec PyProof.Rows
/-! ### texts in order -/
def LeS (x y : Str) : Prop := ¬ (y.cps.toList < x.cps.toList)
theorem LeS.trans {x y z : Str} (h : LeS x y) (h' : LeS y z) : LeS x z := List.not_lt.mpr (List.le_trans (List.not_lt.mp h) (List.not_lt.mp h'))
theorem LeS.anti {x y : Str} (h : LeS x y) (h' : LeS y x) : x = y := by
  have e : x.cps.toList = y.cps.toList := List.le_antisymm (List.not_lt.mp h) (List.not_lt.mp h')
  obtain ⟨⟨a⟩⟩ := x
  obtain ⟨⟨b⟩⟩ := y
  cases (show a = b from e)
  rfl
def Srt (l : List Str) : Prop := l.Pairwise LeS
theorem rising : ∀ (p : Str) (l : List Str), risingS p l = true → Srt (p :: l)
  | p, [], _ => by simp [Srt]
  | p, x :: r, h => by
    have h' : (!ltCps x.cps.toList p.cps.toList && risingS x r) = true := h
    rw [Bool.and_eq_true, ltCps_eq] at h'
    obtain ⟨h1, h2⟩ := h'
    have hp : LeS p x := by
      intro hlt
      rw [decide_eq_true hlt] at h1
      cases h1
    have hr := rising x r h2
    refine List.pairwise_cons.mpr ⟨fun y hy => ?_, hr⟩
    rcases List.mem_cons.mp hy with rfl | hy
    · exact hp
    · exact hp.trans ((List.pairwise_cons.mp hr).1 y hy)
theorem srt_of : ∀ {l : List Str}, sortedS l = true → Srt l
  | [], _ => by simp [Srt]
  | x :: r, h => rising x r h
theorem Srt.uniq : ∀ {l m : List Str}, Srt l → Srt m → l.Perm m → l = m
  | [], m, _, _, hp => (List.Perm.nil_eq hp)
  | x :: l, [], _, _, hp => by
    have := hp.length_eq
    simp at this
  | x :: l, y :: m, h1, h2, hp => by
    obtain ⟨a1, b1⟩ := List.pairwise_cons.mp h1
    obtain ⟨a2, b2⟩ := List.pairwise_cons.mp h2
    have hxy : x = y := by
      rcases List.mem_cons.mp (hp.mem_iff.mp (List.mem_cons_self (a := x))) with h | hx
      · exact h
      · rcases List.mem_cons.mp (hp.mem_iff.mpr (List.mem_cons_self (a := y))) with h | hy
        · exact h.symm
        · exact (a1 y hy).anti (a2 x hx)
    subst hxy
    rw [Srt.uniq b1 b2 (List.Perm.cons_inv hp)]
theorem perm_of_mem {l m : List Str} (h1 : l.Nodup) (h2 : m.Nodup) (h : ∀ x, x ∈ l ↔ x ∈ m) : l.Perm m := by
  rw [List.perm_iff_count]
  intro x
  rw [h1.count, h2.count]
  by_cases hx : x ∈ l
  · rw [if_pos hx, if_pos ((h x).mp hx)]
  · rw [if_neg hx, if_neg fun z => hx ((h x).mpr z)]
section
variable {prog : Program} {w : World} {A : Around} {E : Value → Shared → Prop} {s : Shared}
/-- sorted(x), by what x is told as -/
theorem sortedC {x : Value} {Q : Value → Shared → Prop}
    (g : wpAny (model prog w) A.in1 (collect x) (fun vs s1 => ∃ ss : List Str, StrsAre vs ss ∧ vs.length < 64 ∧ ∀ (D : Addr) (h' : Heap) (us : List Value) (tt : List Str) (e : Nat), s1.heap.objs.size ≤ D → (∀ b o, s1.heap.get? b = some o → h'.get? b = some o) →
      h'.get? D = some (seqObj "list" us.toArray e) → StrsAre us tt → tt.Perm ss → Srt tt → Q (.ref D) { s1 with heap := h' }) E s) : wpAny (model prog w) A (call (.builtin "sorted") [x]) Q E s := by
  refine Calls.call_function_entry kind_sorted plain_sorted entry_sorted (args_sorted1 _) ?_
  unfold Builtin.«sorted»
  refine wpAny_bind (m := checkCount "sorted" 1 1 _) ?_
  refine wpAny_pure ?_
  refine wpAny_bind (wpAny_mono g (fun vs s1 q => ?_) fun _ _ e => e)
  obtain ⟨ss, hs, h64, q⟩ := q
  refine wpAny_bind (wpAny_newList ?_ (by rw [sizeLine_eq]; omega))
  have e1 : (s1.heap.push (seqObj "list" vs.toArray 0)).get? s1.heap.objs.size = some (seqObj "list" vs.toArray 0) := Heap.get?_push_size _ rfl
  refine wpAny_bind (wpAny_holding ?_)
  refine wpAny_call_entry slot_list_sort ⟨_, e1, rfl⟩ entry_list_sort ?_ (args_list_sort _)
  refine list_sort_treeK (s := { s1 with heap := s1.heap.push (seqObj "list" vs.toArray 0) }) strKind_oneLt e1 hs.keysOf (fun v1 v2 r e => keyKind_strs (by rw [← e]; exact hs)) h64 fun st' hp hk => ⟨_, rfl, ?_⟩
  obtain ⟨tt, h1, h2, h3⟩ := sorted_out_str hs hp hk
  refine wpAny_pure ⟨_, rfl, ?_⟩
  obtain ⟨e, he⟩ := sortedHeap_at (out := (arrOf st').map (·.2)) e1
  refine q s1.heap.objs.size _ ((arrOf st').map (·.2)).toList tt e (Nat.le_refl _) (fun b o eb => ?_) he h1 h2 (srt_of h3)
  have hlt := Heap.lt_size eb
  change (sortedHeap _ _ _ _).get? b = _
  rw [sortedHeap_old (Nat.ne_of_lt hlt) (by rw [Heap.size_push]; exact Nat.lt_succ_of_lt hlt)]
  exact Heap.get?_push_of_some _ eb
end
end TXS
namespace L2
open PySem PySem.Spec PyProof.Rows
/-- a set of texts -/
def SetO (w : World) (a : Addr) (L : List Str) : HO := .ext (TXS.TSet w a L)
theorem setO_ok {P : Program} {w : World} {H : Hp} {h : Heap} {a : Addr} {L : List Str} (x : TXS.TSet w a L h) : ObjOk P w H h a (SetO w a L) := by
  refine ⟨x, ?_, fun h1 h2 y k => y.at k⟩
  obtain ⟨o, _, _, _, e, _⟩ := x
  exact ⟨o, e⟩
theorem vals_strs : ∀ {us : List Value} {ss : List Str}, StrsAre us ss → Vals (ss.map V.str) us
  | _, _, .nil => .nil
  | _, _, .cons x t h => .cons ⟨t, rfl⟩ (vals_strs h)
section
variable {X : Cx}
theorem Inv.drew {pins : List (Addr × Obj)} {σ : St} {H : Hp} {s : Shared} (I : Inv X pins σ H s) (d : Drawn) : Inv X pins σ H { s with drawn := d } :=
  I.call (g' := s.gens) (t' := s.toks) (d' := d) (ch := []) Un.refl I.hok I.bare fun b h => nomatch h
theorem call_set0 : CallR X (.type "set") (fun xs H Q => xs = [] ∧ ∀ p, H p = none → Q (.ref p) (upd H p (SetO X.w p []))) := by
  intro pins s σ H xs us Q I r h
  obtain ⟨rfl, q⟩ := h
  cases r
  refine TXS.callX ?_
  exact ⟨.ref s.heap.objs.size, _, I.laid (t' := s.toks) (fun b o e => Heap.get?_push_of_some _ e) (Nat.le_refl _) (setO_ok (TXS.void_set _)), rfl, q _ (I.hok.fresh (Nat.le_refl _))⟩
theorem boot_set : bootBuiltins "set" = some (.type "set") := by decide +kernel
theorem boot_sorted : bootBuiltins "sorted" = some (.builtin "sorted") := by decide +kernel
theorem boot_sum : bootBuiltins "sum" = some (.builtin "sum") := by decide +kernel
def tAddS (w : World) (to : TE) (t : TA) : TE := fun σ H Q => to σ H fun x H1 => ∃ p L, x = .ref p ∧ H1 p = some (SetO w p L) ∧ t σ H1 fun xs H2 => ∃ y L', xs = [.str y] ∧ H2 p = some (SetO w p L') ∧ L'.length + 1 < 4096 ∧ Q .non (upd H2 p (SetO w p (if y ∈ L' then L' else L' ++ [y])))
theorem pe_addS {o e : Expr} {to : TE} {t : TA} {apos cpos : Pos} (ho : PE X o to) (ha : PA X [e] t)
    (hbase : attributeBase o "add" X.env (eval o X.env) = eval o X.env := by rfl)
    (hfew : ((backTo cpos (starEach [e] X.env)).all (fun x => !x.1) && (backToKw cpos (keywordEach [] X.env)).all (fun x => x.1.isSome)
      && decide ([e].length + ([] : List Keyword).length + (if ([] : List Keyword).isEmpty then 0 else 1) < 30)) = true := by rfl)
    (hline : (apos.endLine == cpos.line) = true := by rfl) (hs : starEach [e] X.env = (false, eval e X.env) :: starEach [] X.env := by rfl) (hplain : (backTo cpos (starEach [] X.env)).any (·.1) = false := by rfl) :
    PE X (.Call (.Attribute o "add" apos) [e] [] cpos) (tAddS X.w to t) := by
  intro pins s σ H Q I h
  refine wpAny_Call_method_late hbase hfew hline rfl (thn (ho pins s σ H _ I h) fun v s1 ⟨x, H1, I1, r1, p, L, ex, hp, q1⟩ => ?_)
  subst ex
  cases r1
  have hS1 : TXS.TSet X.w p L s1.heap := (I1.hok p _ hp).1
  refine ⟨"set", "set.add", F.plainAttrs_set, F.slot_set_add, F.type_set_add, hS1.ty, fun a ea => ?_, ?_⟩
  · cases ea
    obtain ⟨ob, _, _, _, e1, ex, _⟩ := hS1
    exact ⟨ob, e1, ex.2.1⟩
  · have hA := ha cpos pins s1 σ H1 _ I1 q1
    rw [hs] at hA ⊢
    refine Calls.callWith_builtin (by show (false || (backTo cpos (starEach [] X.env)).any (·.1)) = false; rw [hplain] <;> rfl) (Calls.evalArgs_plain ?_)
    refine thn hA fun us s2 ⟨vs, H2, I2, r2, y, L', ev, hp2, hlen, q2⟩ => ?_
    subst ev
    obtain ⟨u, rfl, ru⟩ := vals1 r2
    obtain ⟨tk, rfl⟩ := ru
    have hS2 : TXS.TSet X.w p L' s2.heap := (I2.hok p _ hp2).1
    refine wpAny_call_entry F.slot_set_add hS2.ty F.entry_set_add ?_ (F.args_set_add_2 _ _)
    unfold Builtin.«set.add»
    unfold Builtin.Frozenset.oneOther
    simp only [List.isEmpty_nil, bind_assoc]
    unfold Builtin.Frozenset.addrOf
    unfold setAdd
    refine wpAny_bind (wpAny_pure ?_)
    try dsimp only
    refine wpAny_bind ?_
    refine wpAny_holding ?_
    refine wpAny_bind ((PySem.strKind X.prog X.w).pyHash (k := y) (by simp [PySem.strKind, Value.isStrOf]) ?_)
    refine TXS.addT (s := { s2 with toks := s2.toks + 1 }) hS2 hlen fun r h' sb hS' => ?_
    change wpAny _ _ (ret Value.none) _ _ _
    refine wpAny_pure ⟨_, rfl, ?_⟩
    refine ⟨.non, _, I2.write (h' := h') (t' := s2.toks + 1) (e := p) (o := SetO X.w p (if y ∈ L' then L' else L' ++ [y])) (by rw [hp2]; trivial) (.inl rfl) (fun b u hb e => sb.extBut b u hb e) ?_ (setO_ok hS'), rfl, q2⟩
    obtain ⟨ob, _, _, _, e1, _⟩ := hS'
    exact ⟨ob, e1⟩
/-- sorted(a set of texts) -/
def rSortS (w : World) : List V → Hp → VK → Prop := fun xs H Q => ∃ p L, xs = [.ref p] ∧ H p = some (SetO w p L) ∧ L.length < 64 ∧ ∀ q ss, H q = none → ss.Perm L → TXS.Srt ss → Q (.ref q) (upd H q (.lst (ss.map V.str)))
theorem call_sortS (hc : X.calm = true) : CallR X (.builtin "sorted") (rSortS X.w) := by
  intro pins s σ H xs us Q I r h
  obtain ⟨p, L, rfl, hp, hL, q⟩ := h
  obtain ⟨u, rfl, ru⟩ := vals1 r
  cases ru
  have hS : TXS.TSet X.w p L s.heap := (I.hok p _ hp).1
  refine TXS.sortedC (TXS.collI (A := X.A.in1) (I.ok.hd hc) hS fun h1 d l kp told => ?_)
  have hll : l.length = L.length := by
    have := told.pm.length_eq
    rwa [List.length_map] at this
  refine ⟨_, told.is, by omega, fun D h2 vs tt e hD kp2 eD hv ht hs => ?_⟩
  have I1 : Inv X pins σ H { s with heap := h1, drawn := d } := (I.kept (t' := s.toks) kp).drew d
  have hlen : tt.length ≤ 64 := by
    have := (ht.trans told.pm).length_eq
    omega
  refine ⟨.ref D, upd H D (.lst (tt.map V.str)), I1.laid (h' := h2) (t' := s.toks) (fun b o e => kp2 b o e) hD ?_, rfl, q D tt (I1.hok.fresh hD) (ht.trans told.pm) hs⟩
  exact ⟨by rw [List.length_map, sizeLine_eq]; omega, vs, e, vals_strs hv, eD⟩
/-- sorted(a dict of texts) -/
def rSortD : List V → Hp → VK → Prop := fun xs H Q => ∃ p kvs L, xs = [.ref p] ∧ H p = some (.dK kvs) ∧ kvs.map (·.1) = L.map Sum.inr ∧ L.length < 64 ∧ ∀ q ss, H q = none → ss.Perm L → TXS.Srt ss → Q (.ref q) (upd H q (.lst (ss.map V.str)))
theorem kv_keys {κ : Type} : ∀ {kvs : List (κ × V)} {vs : List (κ × Value)}, KV kvs vs → kvs.map (·.1) = vs.map (·.1)
  | _, _, .nil => rfl
  | _, _, .cons h r => by rw [List.map_cons, List.map_cons, h.1, kv_keys r]
theorem call_sortD (hc : X.calm = true) : CallR X (.builtin "sorted") rSortD := by
  intro pins s σ H xs us Q I r h
  obtain ⟨p, kvs, L, rfl, hp, hk, hL, q⟩ := h
  obtain ⟨u, rfl, ru⟩ := vals1 r
  cases ru
  obtain ⟨hz, lo, vs, kv, hD⟩ := I.hok p _ hp
  obtain ⟨ep, hat⟩ := hD.dictAt
  have hkeys : vs.map (·.1) = L.map Sum.inr := (kv_keys kv).symm.trans hk
  have hvl : vs.length = L.length := by
    have := congrArg List.length hkeys
    simpa using this
  refine TXS.sortedC (PySem.W.kdu_collect (A := X.A.in1) (PySem.W.kdl_dict (knd := mixKind X.prog X.w) (kvs := vs) (ep := ep) lo) (I.ok.hd hc) hat (by rw [sizeLine_eq]; omega) fun h1 tk acc kp hacc => ?_)
  have hel : ∀ (j : Nat) v, acc.toList[j]? = some v → ∃ x t, L[j]? = some x ∧ v = .str x t := fun j v hv => by
    obtain ⟨k, y, e1, e2⟩ := hacc.2 j v (by rw [← Array.getElem?_toList]; exact hv)
    have e3 : (vs.map (·.1))[j]? = some k := by rw [List.getElem?_map, e1]; rfl
    rw [hkeys, List.getElem?_map] at e3
    obtain ⟨x, e4, e5⟩ := Option.map_eq_some_iff.mp e3
    subst e5
    obtain ⟨t, e6⟩ := Value.isStrOf_shape (show Value.isStrOf x v = true from e2)
    exact ⟨x, t, e4, e6⟩
  have hal : acc.toList.length = L.length := by
    rw [Array.length_toList, hacc.1, hvl]
  have hmap : acc.toList.map strOf = L := by
    apply List.ext_getElem?
    intro j
    rw [List.getElem?_map]
    cases hj : acc.toList[j]? with
    | none =>
      have : acc.toList.length ≤ j := List.getElem?_eq_none_iff.mp hj
      rw [hal] at this
      rw [List.getElem?_eq_none_iff.mpr this]
      rfl
    | some v =>
      obtain ⟨x, t, e1, rfl⟩ := hel j v hj
      rw [e1]
      rfl
  have hst : StrsAre acc.toList L := by
    have := strsAre_map acc.toList fun v hv => by
      obtain ⟨j, hj⟩ := List.getElem?_of_mem hv
      obtain ⟨x, t, _, e⟩ := hel j v hj
      exact ⟨x, t, e⟩
    rwa [hmap] at this
  refine ⟨L, hst, by omega, fun D h2 ws tt e hDl kp2 eD hv ht hs => ?_⟩
  have I1 : Inv X pins σ H { s with heap := h1, toks := tk } := I.kept (t' := tk) kp
  have hlen : tt.length ≤ 64 := by
    have := ht.length_eq
    omega
  refine ⟨.ref D, upd H D (.lst (tt.map V.str)), I1.laid (h' := h2) (t' := tk) (fun b o e => kp2 b o e) hDl ?_, rfl, q D tt (I1.hok.fresh hDl) ht hs⟩
  exact ⟨by rw [List.length_map, sizeLine_eq]; omega, ws, e, vals_strs hv, eD⟩
/-- sum(a list of numbers) -/
theorem preSum_list (ns : List Int) : ∀ k, k ≤ ns.length → preSum (fun i => (ns[i]?).getD 0) k = (ns.take k).sum
  | 0, _ => rfl
  | k + 1, h => by
    have hk : k < ns.length := h
    have e : preSum (fun i => (ns[i]?).getD 0) (k + 1) = preSum (fun i => (ns[i]?).getD 0) k + (ns[k]?).getD 0 := rfl
    rw [e, preSum_list ns k (by omega), List.take_succ, List.getElem?_eq_getElem hk, List.sum_append]
    simp
theorem ints_at : ∀ {ns : List Int} {us : List Value}, Vals (ns.map V.int) us → us.length = ns.length ∧ ∀ (i : Nat) v, us[i]? = some v → ∃ t, v = .int ((ns[i]?).getD 0) t
  | [], _, r => by
    cases r
    exact ⟨rfl, fun i v h => by simp at h⟩
  | n :: ns, _, r => by
    rw [List.map_cons] at r
    cases r with
    | cons r1 r2 =>
      obtain ⟨t, e⟩ := r1
      obtain ⟨h1, h2⟩ := ints_at r2
      refine ⟨by rw [List.length_cons, List.length_cons, h1], fun i v h => ?_⟩
      cases i with
      | zero => cases h; exact ⟨t, e⟩
      | succ i => exact h2 i v h
theorem call_sumL (hc : X.calm = true) : CallR X (.builtin "sum") (fun xs H Q => ∃ (l : Addr) (ns : List Int), xs = [.ref l] ∧ SqL X.K H l (ns.map V.int) ∧ Q (.int ns.sum) H) := by
  intro pins s σ H xs us Q I r h
  obtain ⟨l, ns, rfl, hq, q⟩ := h
  obtain ⟨u, rfl, ru⟩ := vals1 r
  cases ru
  obtain ⟨its, rv, pl, hz⟩ := I.list hq
  obtain ⟨hil, hin⟩ := ints_at rv
  have hl := pl.isList
  have hlt : l < s.heap.objs.size := by obtain ⟨_, e, _⟩ := hl; exact Heap.lt_size e
  refine call_sum_walkAnyS (wpAny_pyIter_list hl ?_)
  refine ⟨s.heap.objs.size, [s.heap.objs.size, l], [s.heap.objs.size], _, its.toArray.size, _, _, fun i => (ns[i]?).getD 0, rfl, (Walks.list (A := X.A.in1) (I.ok.hd hc) _ l (Nat.ne_of_lt hlt) _).toS,
    ⟨⟨_, Heap.get?_push_size _ rfl, rfl, rfl⟩, hl.push _⟩, fun b hb => ?_, fun i v hP => hin i v (by simpa using hP), fun s' t' hm => ?_⟩
  · change b < (s.heap.push _).objs.size
    rw [Heap.size_push]
    rcases List.mem_cons.mp hb with rfl | hb
    · exact Nat.lt_succ_self _
    · rw [List.mem_singleton.mp hb]; exact Nat.lt_succ_of_lt hlt
  · have kp : ∀ b o, s.heap.get? b = some o → s'.heap.get? b = some o := fun b o e =>
      hm.heap b o (fun hI => absurd (Heap.lt_size e) (by rw [List.mem_singleton.mp hI]; exact Nat.lt_irrefl _)) (Heap.get?_push_of_some _ e)
    have e1 : preSum (fun i => (ns[i]?).getD 0) its.toArray.size = ns.sum := by
      rw [List.size_toArray, hil, preSum_list ns _ (Nat.le_refl _), List.take_length]
    rw [Moved.eq_with hm, e1]
    exact ⟨.int ns.sum, H, I.kept (h' := s'.heap) (t' := s'.toks) kp, ⟨t', rfl⟩, q⟩
/-- a list of texts != the same texts -/
theorem op_neLS (hu : X.A.units + 2 < cLine) : OpR X (compareOp .NotEq) (fun x y H Q => ∃ (a b : Addr) (ss : List Str), x = .ref a ∧ y = .ref b ∧ H a = some (.lst (ss.map V.str)) ∧ H b = some (.lst (ss.map V.str)) ∧ Q (.bl false) H) := by
  intro pins s σ H x y v u Q I rx ry h
  obtain ⟨a, b, ss, rfl, rfl, e1, e2, hQ⟩ := h
  cases rx; cases ry
  obtain ⟨us, q1, t1, _⟩ := I.list (SqL.of e1)
  obtain ⟨ws, q2, t2, _⟩ := I.list (SqL.of e2)
  have l1 := q1.length
  have l2 := q2.length
  rw [List.length_map] at l1 l2
  have hsz : us.toArray.size = ws.toArray.size := by rw [List.size_toArray, List.size_toArray]; omega
  refine EqBoolInt.of_rcne (SeqAt.RcNeAt.lists (items := us.toArray) (items2 := ws.toArray) (e := fun _ => true) t1.isList t2.isList hsz (by omega) fun j g1 g2 => ?_) ⟨.bl false, H, I, ?_, hQ⟩
  · have g1' : j < us.length := by simpa using g1
    have g2' : j < ws.length := by simpa using g2
    have hj : j < ss.length := by omega
    have ex : (ss.map V.str)[j]? = some (.str ss[j]) := by simp [hj]
    obtain ⟨u1, hu1, r1⟩ := q1.get ex
    obtain ⟨u2, hu2, r2⟩ := q2.get ex
    have d1 : us[j] = u1 := by rw [List.getElem?_eq_getElem g1'] at hu1; exact Option.some.inj hu1
    have d2 : ws[j] = u2 := by rw [List.getElem?_eq_getElem g2'] at hu2; exact Option.some.inj hu2
    have := DEq.eqAt I (DEq.flat (H := H) (n := 0) (v := .str ss[j]) rfl) X.A.in1 us[j] ws[j] (by show X.A.units + 1 + 0 < cLine; omega) (by rw [d1]; exact r1) (by rw [d2]; exact r2)
    simpa using this
  · have hb : ((List.range us.toArray.size).all fun _ => true) = true := by simp
    rw [hb]
    rfl
end
end L2
end
section
set_option Elab.async false
set_option linter.all false
set_option maxRecDepth 100000
namespace L2
open PySem PySem.Spec PyProof.Rows
theorem relabel_id {scope : Scope} {env : Env} (h : ∀ y ∈ scope.names, y.2 ≠ .free) : (relabel scope env).names = scope.names := by
  unfold relabel
  refine map_eq_self fun x hx => ?_
  obtain ⟨n, k⟩ := x
  have e : (k == NameKind.free) = false := by simpa using h _ hx
  simp [e]
/-- nothing captured -/
theorem caps0 {X : Cx} {scope : Scope} {x : Str} (h1 : ∀ y ∈ scope.names, y.2 ≠ .free) (h2 : ∀ y ∈ scope.names, y.2 ≠ .cell) (hk : scope.kind = .function) (hn : ∀ y ∈ scope.names, y.2 = .local → scope.names.lookup y.1 = some .local)
    (hx : scope.names.lookup x = some .local) : Caps X scope x [] [] [] where
  clos := closureFor_none h1
  cell := h2
  kind := hk
  names := hn
  hx := hx
  sub := fun y c e => by cases e
  has := fun y hy => by
    rw [relabel_id h1] at hy
    rcases hy with hy | hy
    · exact absurd rfl (h2 _ (PySem.mem_of_lookup hy))
    · exact absurd rfl (h1 _ (PySem.mem_of_lookup hy))
  nd := by simp
  len := rfl
  cap := fun k y e => by simp at e
end L2
namespace K04
open PySem L2 PyProof.Rows
def top (i : Nat) : Stmt := PySem.Challenge.pw_tacticwright_k04_nodes_and_free.main.body.getD i (.Pass ⟨0, 0, 0, 0⟩)
abbrev sParts : Stmt := top 4
abbrev sNodes : Stmt := top 5
abbrev sFreeIn : Stmt := top 6
abbrev sDraw : Stmt := top 8
abbrev sState : Stmt := top 9
abbrev sNm : Stmt := top 10
abbrev sFn : Stmt := top 11
abbrev sPool : Stmt := top 12
abbrev sLeaf : Stmt := top 13
abbrev sGen : Stmt := top 14
abbrev sTall : Stmt := top 15
abbrev sAny : Stmt := top 16
abbrev sTold : Stmt := top 17
abbrev sAnyT : Stmt := top 18
abbrev sInner : Stmt := top 19
abbrev sWalk : Stmt := top 20
abbrev sRight : Stmt := top 21
abbrev sLaw : Stmt := top 22
/-! the mirror -/
def SM : Str := "abcdefghijklmnopqrstuvwxyz"
def GR : Str := "ABCDEFGHIJKLMNOPQRSTUVWXYZ"
def keptV : List V := [.str "false", .str "all", .str "some", .str "and", .str "or"]
def small (c : Nat) : Bool := decide (c ∈ SM.cps.toList)
def great (c : Nat) : Bool := decide (c ∈ GR.cps.toList)
def areSmall (x : Str) : Bool := (x.cps.toList.map small).all id
def shortF : V → Bool
  | .str x => decide (0 < x.length) && decide (x.length ≤ 8)
  | _ => false
def nameF : V → Bool
  | .str x => shortF (.str x) && (areSmall x && !inV (.str x) keptV)
  | _ => false
def formF : V → Bool
  | .str x => shortF (.str x) && (great (x.cps.toList.headD 0) && areSmall (Txt.slice x (some 1) none))
  | _ => false
theorem small_not_great {c : Nat} (h : small c = true) : great c = false := by
  unfold small at h
  unfold great
  have h' := of_decide_eq_true h
  rw [show SM.cps.toList = [97,98,99,100,101,102,103,104,105,106,107,108,109,110,111,112,113,114,115,116,117,118,119,120,121,122] by decide +kernel] at h'
  rw [show GR.cps.toList = [65,66,67,68,69,70,71,72,73,74,75,76,77,78,79,80,81,82,83,84,85,86,87,88,89,90] by decide +kernel]
  refine decide_eq_false fun h2 => ?_
  simp only [List.mem_cons, List.not_mem_nil, or_false] at h' h2
  omega
theorem slice1 (x : Str) : (Txt.slice x (some 1) none).cps.toList = x.cps.toList.drop 1 := by
  unfold Txt.slice
  have e : Builtin.Str.strSliceIndices (some 1) none 1 x.length = (List.range (x.length - 1)).map fun k => 1 + k := by
    unfold Builtin.Str.strSliceIndices sliceRange
    simp only [show (1 : Int) > 0 by decide, if_true, show ¬ ((1 : Int) < 0) by decide, if_false]
    by_cases h : x.length ≤ 1
    · have h1 : max 0 (min (1 : Int) (x.length : Int)) = (x.length : Int) := by omega
      have h2 : x.length - 1 = 0 := by omega
      rw [h1, h2]
      simp
    · have h1 : max 0 (min (1 : Int) (x.length : Int)) = 1 := by omega
      rw [h1, if_pos (by omega)]
      have h2 : (((x.length : Int) - 1 + 1 - 1) / 1).toNat = x.length - 1 := by omega
      rw [h2]
      refine List.map_congr_left fun k _ => ?_
      omega
  rw [e]
  have hl : ((List.range (x.length - 1)).map fun k => 1 + k).length = x.length - 1 := by simp
  split
  · rename_i h
    rw [Bool.and_eq_true] at h
    have h2 : x.length - 1 = x.length := by have := eq_of_beq h.2; rw [hl] at this; exact this
    have h3 : x.cps.toList.length = 0 := by
      have : x.cps.toList.length = x.length := by simp [Str.length]
      omega
    rw [List.length_eq_zero_iff.mp h3]
    rfl
  · show (((List.range (x.length - 1)).map fun k => 1 + k).filterMap (x.cps[·]?)).toArray.toList = _
    rw [List.filterMap_map]
    refine List.ext_getElem? fun j => ?_
    have key : ∀ n, n ≤ x.length - 1 → (List.range n).filterMap ((fun k => x.cps[k]?) ∘ fun k => 1 + k) = (x.cps.toList.drop 1).take n := by
      intro n
      induction n with
      | zero => intro _; simp
      | succ n ih =>
        intro hn
        rw [List.range_succ, List.filterMap_append, ih (by omega)]
        have hlt : 1 + n < x.cps.size := by have : x.cps.size = x.length := rfl; omega
        have e2 : x.cps.toList.drop 1 = x.cps.toList.drop 1 := rfl
        rw [List.take_add_one]
        congr 1
        have h3 : x.cps[n + 1]? = some x.cps[1 + n] := by
          rw [show n + 1 = 1 + n by omega]
          simp [hlt]
        simp [hlt, h3]
    rw [key _ (Nat.le_refl _), List.take_of_length_le (by simp [Str.length])]
end K04
end
section
set_option Elab.async false
set_option linter.all false
set_option maxRecDepth 100000
namespace K04
open PySem L2 PyProof.Rows
/-- a thing that the law draws -/
def Thing (K : PySem.W.Frag) (H : Hp) (v : V) : Prop :=
  (∃ x : Str, v = .str x ∧ x.length ≤ 60) ∨ ∃ t, TyOf K H v t ∧ PySem.W.kitOne K t (.type "str") = some false
theorem Thing.nonstr {K : PySem.W.Frag} {H : Hp} {v : V} {t : Value} (ty : TyOf K H v t) (e : PySem.W.kitOne K t (.type "str") = some false) : ∀ x, v ≠ .str x := fun x z => by
  subst z
  cases ty
  rw [show PySem.W.kitOne K (.type "str") (.type "str") = some true by rfl] at e
  cases e
structure Txt (K : PySem.W.Frag) (mg : Str → Option Value) : Prop where
  len : mg "len" = none
  range : mg "range" = none
theorem same_new {H : Hp} {p : Addr} {o : HO} (h : H p = none) : Same H (upd H p o) := fun b u e => by rw [upd_ne (ne_of_none e h)]; exact e
/-- what is needed of a def that is called -/
structure Def (K : PySem.W.Frag) (mg : Str → Option Value) (x : Str) (st : Stmt) (ps : List Str) (f : Addr) (fd : FuncData) : Prop where
  F : Fun K x x st f fd
  b : Binds K fd ps []
  m : mg x = some (.ref f)
  k : PySem.W.keepIn K (.ref f) = true
end K04
end
section
set_option Elab.async false
set_option linter.all false
set_option maxRecDepth 100000
namespace K04
open PySem L2 PyProof.Rows
def lsV (a b : Int) : HO := .lst [.int a, .int b]
def SeedOk (b : Int) : Prop := 0 ≤ b ∧ b < 2147483647
def spDraw : Sp := fun vs H Q _ => ∃ (p : Addr) (m a b : Int), vs = [.ref p, .int m] ∧ H p = some (lsV a b) ∧ 0 < m ∧ m < 1073741824 ∧ SeedOk b ∧
  ∀ r a' b', 0 ≤ r → r < m → SeedOk b' → Q (.int r) (upd H p (lsV a' b'))
def spState (K : PySem.W.Frag) : Sp := fun vs H Q _ => ∃ (s : Addr) (k : Int) (ns : List Int), vs = [.ref s, .int k] ∧ SqL K H s (ns.map V.int) ∧ ns.length ≤ 63 ∧ 0 ≤ k ∧ k ≤ 100 ∧
  ∀ p a b, H p = none → SeedOk b → Q (.ref p) (upd H p (lsV a b))
section
variable {P : Program} {w : World} {K : PySem.W.Frag} {mg : Str → Option Value} {base : Heap}
theorem scDraw : FnScope ["_law_state_here", "_law_many", "_law_found"] ["_law_state_here", "_law_many"] (defScope sDraw) := ⟨rfl, rfl, rfl, by decide +kernel, rfl, by decide +kernel, by decide +kernel⟩
theorem ok_draw {f : Addr} {fd : FuncData} (F : Fun K "_law_draw" "_law_draw" sDraw f fd) : FnOk P w K mg base CX0 1 f fd ["_law_state_here", "_law_many"] spDraw := by
  refine F.ok scDraw (fun vs H Q E h => ?_) (fun cdv A outer s H vs Q E hr h => ?_)
  · obtain ⟨p, m, a, b, rfl, _⟩ := h
    rfl
  · obtain ⟨p, m, a, b, rfl, hp, m0, m1, ⟨b0, b1⟩, k⟩ := h
    refine ⟨_, pss_cons (ps_if (pt_cmpR op_gt (pe_ix ix_list (pv 0) pe_int (fun _ _ => rfl)) pe_int (nomark _))
        (pss_cons (ps_set (i := 2) scDraw.nd rfl (Or.inl rfl) (pe_op op_mod (pe_ix ix_list (pv 0) pe_int (fun _ _ => rfl)) (pv 1)))
        (pss_cons (ps_asg (pe_op op_fdiv (pe_ix ix_list (pv 0) pe_int (fun _ _ => rfl)) (pv 1)) (pg_sub (pv 0) pe_int set_list))
        (pss_one (ps_ret (pv 2))))) pss_nil)
      (pss_cons (ps_asg (pe_op op_mod (pe_op op_add (pe_op op_mul (pe_ix ix_list (pv 0) pe_int (fun _ _ => rfl)) pe_int) pe_int) pe_int) (pg_sub (pv 0) pe_int set_list))
      (pss_one (ps_ret (pe_op op_mod (pe_op op_mod (pe_op op_mul (pe_op op_fdiv (pe_op op_mod (pe_op op_mul (pe_ix ix_list (pv 0) pe_int (fun _ _ => rfl)) pe_int) pe_int) pe_int) pe_int) pe_int) (pv 1))))), ?_⟩
    refine ⟨_, rfl, p, _, 0, _, rfl, rfl, SqL.of hp, rfl, _, _, rfl, rfl, _, rfl, ?_⟩
    refine ite2 (fun _ => ?_) (fun _ => ?_)
    · refine ⟨_, rfl, p, _, 0, _, rfl, rfl, SqL.of hp, rfl, _, rfl, _, _, rfl, rfl, m0, ?_⟩
      refine ⟨_, rfl, p, _, 0, _, rfl, rfl, SqL.of hp, rfl, _, rfl, _, _, rfl, rfl, ⟨m0, m1⟩, ?_⟩
      refine ⟨_, rfl, p, _, 0, 0, rfl, rfl, hp, rfl, ?_⟩
      exact ⟨_, rfl, k (a % m) (a / m) b (Int.emod_nonneg _ (by omega)) (Int.emod_lt_of_pos _ m0) ⟨b0, b1⟩⟩
    · refine ⟨_, rfl, p, _, 1, _, rfl, rfl, SqL.of hp, rfl, _, _, rfl, rfl, .inr ⟨by decide, by decide⟩, _, _, rfl, rfl, _, _, rfl, rfl, (by show (0 : Int) < 2147483647; decide), ?_⟩
      refine ⟨_, rfl, p, _, 1, 1, rfl, rfl, hp, rfl, ?_⟩
      refine ⟨_, rfl, p, _, 1, _, rfl, rfl, SqL.of upd_same, rfl, _, _, rfl, rfl, .inr ⟨by decide, by decide⟩, _, _, rfl, rfl, (by show (0 : Int) < 2147483629; decide), _, _, rfl, rfl, ⟨by decide, by decide⟩, _, _, rfl, rfl, .inr ⟨by decide, by decide⟩, _, _, rfl, rfl, (by show (0 : Int) < 2147483587; decide), _, rfl, _, _, rfl, rfl, m0, ?_⟩
      exact k _ a ((b * 48271 + 12345) % 2147483647) (Int.emod_nonneg _ (by omega)) (Int.emod_lt_of_pos _ m0) ⟨Int.emod_nonneg _ (by decide), Int.emod_lt_of_pos _ (by decide)⟩
theorem scState : FnScope ["_law_script", "_law_k", "_law_cell", "_law_seed"] ["_law_script", "_law_k"] (defScope sState) := ⟨rfl, rfl, rfl, by decide +kernel, rfl, by decide +kernel, by decide +kernel⟩
theorem ok_state {f : Addr} {fd : FuncData} (F : Fun K "_law_state" "_law_state" sState f fd) (T : Txt K mg) : FnOk P w K mg base CX0 1 f fd ["_law_script", "_law_k"] (spState K) := by
  refine F.ok scState (fun vs H Q E h => ?_) (fun cdv A outer s H vs Q E hr h => ?_)
  · obtain ⟨p, m, ns, rfl, _⟩ := h
    rfl
  · obtain ⟨p, j, ns, rfl, hS, hn, j0, j1, k⟩ := h
    refine ⟨_, pss_cons (ps_set (i := 2) scState.nd rfl (Or.inl rfl) pe_int)
      (pss_cons (ps_if (pt_cmpR op_lt (pv 1) (pe_callB call_len (by rfl) T.len PySem.boot_len (pa_cons (pv 0) pa_nil)) (nomark _))
        (pss_one (ps_set (i := 2) scState.nd rfl (Or.inl rfl) (pe_ix ix_list (pv 0) (pv 1) (fun _ _ => rfl)))) pss_nil)
      (pss_cons (ps_set (i := 3) scState.nd rfl (Or.inl rfl) (pe_op op_mod (pe_op op_mul (pe_op op_add (pe_op op_add (pe_op op_mod (pv 2) pe_int) (pe_op op_mul (pe_op op_mul pe_int (pv 1)) (pv 1))) pe_int) pe_int) pe_int))
      (pss_cons (ps_if (pt_cmpR op_lt (pv 2) (pe_op op_pow pe_int pe_int) (nomark _)) (pss_one (ps_ret (pe_lst (pa_cons pe_int (pa_cons (pv 3) pa_nil))))) pss_nil)
      (pss_one (ps_ret (pe_lst (pa_cons (pv 2) (pa_cons (pv 3) pa_nil)))))))), ?_⟩
    refine ⟨_, rfl, _, rfl, _, _, rfl, .inl ⟨_, hS, rfl⟩, _, _, rfl, rfl, _, rfl, ?_⟩
    have two : ∀ v w : V, [v, w].length ≤ sizeLine := fun v w => by rw [sizeLine_eq]; show 2 ≤ 16777216; decide
    have seed : ∀ z : Int, SeedOk (z % 2147483647) := fun z => ⟨Int.emod_nonneg _ (by decide), Int.emod_lt_of_pos _ (by decide)⟩
    refine ite2 (fun h => ?_) (fun h => ?_)
    · have hj : j < (ns.map V.int).length := of_decide_eq_true h
      have hj' : j.toNat < ns.length := by rw [List.length_map] at hj; omega
      have ej : atI (ns.map V.int) j = some (.int ns[j.toNat]) := by
        have := atI_nat (xs := ns.map V.int) (j := j.toNat) (v := .int ns[j.toNat]) (by simp [hj'])
        rwa [show ((j.toNat : Nat) : Int) = j by omega] at this
      refine ⟨_, rfl, _, rfl, p, _, _, _, rfl, rfl, hS, ej, ?_⟩
      refine ⟨_, rfl, _, _, rfl, rfl, (by show (0 : Int) < 2147483629; decide), _, rfl, _, _, rfl, rfl, .inl ⟨by decide, by decide⟩, _, rfl, _, _, rfl, rfl, .inr ⟨by omega, by omega⟩, _, _, rfl, rfl, _, _, rfl, rfl, _, _, rfl, rfl, .inr ⟨by decide, by decide⟩, _, _, rfl, rfl, (by show (0 : Int) < 2147483647; decide), ?_⟩
      refine ⟨_, rfl, _, _, rfl, rfl, ⟨by decide, by decide, by decide⟩, _, _, rfl, rfl, _, rfl, ?_⟩
      refine ite2 (fun _ => ?_) (fun _ => ?_)
      · exact ⟨_, rfl, two _ _, fun q hq => k q 0 _ hq (seed _)⟩
      · exact ⟨_, rfl, _, rfl, two _ _, fun q hq => k q _ _ hq (seed _)⟩
    · refine ⟨_, rfl, _, _, rfl, rfl, (by show (0 : Int) < 2147483629; decide), _, rfl, _, _, rfl, rfl, .inl ⟨by decide, by decide⟩, _, rfl, _, _, rfl, rfl, .inr ⟨by omega, by omega⟩, _, _, rfl, rfl, _, _, rfl, rfl, _, _, rfl, rfl, .inr ⟨by decide, by decide⟩, _, _, rfl, rfl, (by show (0 : Int) < 2147483647; decide), ?_⟩
      refine ⟨_, rfl, _, _, rfl, rfl, ⟨by decide, by decide, by decide⟩, _, _, rfl, rfl, _, rfl, ?_⟩
      refine ite2 (fun _ => ?_) (fun _ => ?_)
      · exact ⟨_, rfl, two _ _, fun q hq => k q 0 _ hq (seed _)⟩
      · exact ⟨_, rfl, _, rfl, two _ _, fun q hq => k q _ _ hq (seed _)⟩
end
end K04
end
section
set_option Elab.async false
set_option linter.all false
set_option maxRecDepth 100000
set_option maxHeartbeats 4000000
namespace K04
open PySem L2 PyProof.Rows
def tsK : List Str := ["false", "all", "some", "and", "or"]
def leafV : List V := [.str "free", .str "bound"]
def argsV : List V := [.str "form", .str "call", .str "atom"]
def pairV : List V := [.str "same", .str "and", .str "or", .str "if"]
def bindV : List V := [.str "all", .str "some"]
structure Txt2 (K : PySem.W.Frag) (mg : Str → Option Value) : Prop extends Txt K mg where
  argsW : ∃ a, mg "ARGS_WORDS" = some (.ref a) ∧ ∀ H, SqT K H a argsV
  pairW : ∃ a, mg "PAIR_WORDS" = some (.ref a) ∧ ∀ H, SqT K H a pairV
  bindW : ∃ a, mg "BIND_WORDS" = some (.ref a) ∧ ∀ H, SqT K H a bindV
  tuple : mg "tuple" = none
  set : mg "set" = none
  sorted : mg "sorted" = none
  sum : mg "sum" = none
  isinstance : mg "isinstance" = none
  int : mg "int" = none
  bool : mg "bool" = none
  list : mg "list" = none
/-- the state's list has moved on, all else stands -/
structure Mv (H : Hp) (p : Addr) (H' : Hp) : Prop where
  st : ∃ a b, H' p = some (lsV a b) ∧ SeedOk b
  keep : ∀ c o, H c = some o → c ≠ p → H' c = some o
theorem Mv.draw {H H' : Hp} {p : Addr} (M : Mv H p H') {a b : Int} (h : SeedOk b) : Mv H p (upd H' p (lsV a b)) :=
  ⟨⟨a, b, upd_same, h⟩, fun c o e n => by rw [upd_ne n]; exact M.keep c o e n⟩
theorem Mv.new {H H' : Hp} {p q : Addr} {o : HO} (M : Mv H p H') (hq : H' q = none) : Mv H p (upd H' q o) := by
  obtain ⟨a, b, e, s⟩ := M.st
  refine ⟨⟨a, b, by rw [upd_ne (ne_of_none e hq)]; exact e, s⟩, fun c u z n => ?_⟩
  have := M.keep c u z n
  rw [upd_ne (ne_of_none this hq)]; exact this
theorem Mv.start {H : Hp} {p : Addr} {a b : Int} (h : H p = some (lsV a b)) (s : SeedOk b) : Mv H p H := ⟨⟨a, b, h, s⟩, fun _ _ e _ => e⟩
theorem Mv.trans {H H1 H2 : Hp} {p : Addr} (M : Mv H p H1) (N : Mv H1 p H2) : Mv H p H2 := ⟨N.st, fun c o e n => N.keep c o (M.keep c o e n) n⟩
theorem Mv.same {H H' H2 : Hp} {p : Addr} (M : Mv H p H') (s : Same H' H2) : Mv H p H2 := by
  obtain ⟨a, b, e, sd⟩ := M.st
  exact ⟨⟨a, b, s _ _ e, sd⟩, fun c u z n => s _ _ (M.keep c u z n)⟩
theorem atI_mem {α : Type} {xs : List α} {q : Int} (h0 : 0 ≤ q) (h1 : q < (xs.length : Nat)) : ∃ v, atI xs q = some v ∧ v ∈ xs := by
  have hj : q.toNat < xs.length := by omega
  have := atI_nat (xs := xs) (j := q.toNat) (v := xs[q.toNat]) (by simp [hj])
  rw [show ((q.toNat : Nat) : Int) = q by omega] at this
  exact ⟨_, this, List.getElem_mem _⟩
theorem same_new2 {H : Hp} {p : Addr} {o o' : HO} (h : H p = none) : Same H (upd (upd H p o) p o') := fun b u e => by rw [upd_ne (ne_of_none e h), upd_ne (ne_of_none e h)]; exact e
theorem small_len {xs : List V} (h : xs.length ≤ 100) : xs.length ≤ sizeLine := by rw [sizeLine_eq]; omega
def cV : Expr → Option V
  | .Constant (.str x) _ _ => some (.str x)
  | _ => none
theorem pa_strs {X : Cx} : ∀ (es : List Expr) (ts : List Str), es.map cV = ts.map (fun t => some (V.str t)) → PA X es (fun _ H Q => Q (ts.map V.str) H)
  | [], ts, h => by
    cases ts with
    | nil => exact pa_nil
    | cons => cases h
  | e :: es, ts, h => by
    cases ts with
    | nil => cases h
    | cons t ts =>
      rw [List.map_cons, List.map_cons] at h
      injection h with h1 h2
      have ih := pa_strs (X := X) es ts h2
      cases e with
      | Constant c j p =>
        cases c with
        | str x =>
          have : x = t := by injection h1 with h1; injection h1
          subst this
          exact pa_cons pe_str ih
        | _ => cases h1
      | _ => cases h1
/-! texts -/
def one (c : Nat) : Str := ⟨#[c]⟩
theorem glued_ones : ∀ (cs : List Nat) (acc : Array Nat), ((cs.map one).foldl (fun acc p => acc ++ ("" : Str).cps ++ p.cps) acc).toList = acc.toList ++ cs
  | [], acc => by simp
  | c :: r, acc => by
    rw [List.map_cons, List.foldl_cons, glued_ones r]
    have : ("" : Str).cps = #[] := rfl
    rw [this]
    simp [one]
theorem join_ones (cs : List Nat) : (Txt.join "" (cs.map one)).cps.toList = cs := by
  cases cs with
  | nil => rfl
  | cons c r =>
    show (((c :: r).map one |>.drop 1).foldl (fun acc p => acc ++ ("" : Str).cps ++ p.cps) (one c).cps).toList = _
    rw [List.map_cons, List.drop_one, List.tail_cons, glued_ones]
    rfl
theorem cps_len (x : Str) : x.cps.toList.length = x.length := by simp [Str.length]
theorem app_len (x y : Str) : (x ++ y).length = x.length + y.length := Str.length_append x y
theorem app_cps (x y : Str) : (x ++ y).cps.toList = x.cps.toList ++ y.cps.toList := by
  show (x.cps ++ y.cps).toList = _
  simp
theorem slice01 (x : Str) : (Txt.slice x none (some 1)).cps.toList = x.cps.toList.take 1 := by
  unfold Txt.slice
  have e : Builtin.Str.strSliceIndices none (some 1) 1 x.length = (List.range (min 1 x.length)).map fun k => k := by
    unfold Builtin.Str.strSliceIndices sliceRange
    simp only [show (1 : Int) > 0 by decide, if_true, show ¬ ((1 : Int) < 0) by decide, if_false]
    by_cases h : x.length = 0
    · simp [h] <;> decide
    · have h1 : max 0 (min (1 : Int) (x.length : Int)) = 1 := by omega
      have h2 : min 1 x.length = 1 := by omega
      rw [h1, h2]
      rfl
  rw [e]
  split
  · rename_i h
    rw [Bool.and_eq_true] at h
    have h2 : min 1 x.length = x.length := by have := eq_of_beq h.2; simpa using this
    have h3 : x.cps.toList.length ≤ 1 := by rw [cps_len]; omega
    rw [List.take_of_length_le h3]
  · show (((List.range (min 1 x.length)).map fun k => k).filterMap (x.cps[·]?)).toArray.toList = _
    cases e2 : x.cps.toList with
    | nil =>
      have : x.length = 0 := by rw [← cps_len, e2]; rfl
      rw [this]; rfl
    | cons c r =>
      have hl : x.length = r.length + 1 := by rw [← cps_len, e2]; rfl
      have h2 : min 1 x.length = 1 := by omega
      have h0 : x.cps[0]? = some c := by
        have : x.cps.toList[0]? = some c := by rw [e2]; rfl
        simpa using this
      rw [h2]
      show ([0].filterMap (x.cps[·]?)).toArray.toList = [c]
      simp [h0]
theorem upper_small {c : Nat} (h : small c = true) : ∃ d, (Txt.upper (one c)).cps.toList = [d] ∧ great d = true := by
  have key : (SM.cps.toList.all fun c => (match (Txt.upper (one c)).cps.toList with | [d] => great d | _ => false)) = true := by decide +kernel
  have := List.all_eq_true.mp key c (of_decide_eq_true h)
  split at this
  · rename_i d e
    exact ⟨d, e, this⟩
  · cases this
theorem str_ext {x y : Str} (h : x.cps.toList = y.cps.toList) : x = y := by
  cases x; cases y
  congr 1
  exact Array.toList_inj.mp h
end K04
end
section
set_option Elab.async false
set_option linter.all false
set_option maxRecDepth 100000
set_option maxHeartbeats 4000000
namespace K04
open PySem L2 PyProof.Rows
theorem caps_of {X : Cx} {scope : Scope} {x : Str} {cl : List (Str × Addr)} {cn : List Str} {caps : List Nat} (names : List (Str × NameKind)) (clos : closureFor scope X.env = pure cl) (cell : ∀ y ∈ scope.names, y.2 ≠ .cell) (kind : scope.kind = .function)
    (hn : ∀ y ∈ scope.names, y.2 = .local → scope.names.lookup y.1 = some .local) (hx : scope.names.lookup x = some .local) (nd : (x :: cn).Nodup) (len : cn.length = caps.length) (rn : (relabel scope X.env).names = names)
    (hsub : ∀ yc ∈ cl, X.env.cells.lookup yc.1 = some yc.2) (hhas : ∀ yk ∈ names, (yk.2 = .cell ∨ yk.2 = .free) → ∃ c, cl.lookup yk.1 = some c)
    (hcap : ∀ p ∈ cn.zip caps, X.N[p.2]? = some p.1 ∧ Vis X.env.scope p.1 ∧ (X.env.kindOf p.1 = some .cell ∨ X.env.kindOf p.1 = some .free) ∧ (names.lookup p.1 = some .cell ∨ names.lookup p.1 = some .free)) : Caps X scope x cl cn caps where
  clos := clos
  cell := cell
  kind := kind
  names := hn
  hx := hx
  sub := fun y c e => hsub (y, c) (PySem.mem_of_lookup e)
  has := fun y hy => by
    rw [rn] at hy
    rcases hy with hy | hy
    · exact hhas (y, _) (PySem.mem_of_lookup hy) (.inl rfl)
    · exact hhas (y, _) (PySem.mem_of_lookup hy) (.inr rfl)
  nd := nd
  len := len
  cap := fun k y e => by
    have hk : k < cn.length := (List.getElem?_eq_some_iff.mp e).1
    have hk2 : k < caps.length := by omega
    have hz : (cn.zip caps)[k]? = some (y, caps[k]) := by
      rw [List.getElem?_zip_eq_some]
      exact ⟨e, by simp [hk2]⟩
    obtain ⟨h1, h2, h3, h4⟩ := hcap (y, caps[k]) (List.mem_of_getElem? hz)
    refine ⟨caps[k], by simp [hk2], h1, h2, h3, ?_⟩
    rw [rn]
    exact h4
/-- the promise of what draws a text -/
def spTx (f : V → Bool) : Sp := fun vs H Q _ => ∃ (p : Addr) (a b : Int), vs = [.ref p] ∧ H p = some (lsV a b) ∧ SeedOk b ∧ ∀ (x : Str) H', f (.str x) = true → x.length ≤ 19 → Mv H p H' → Q (.str x) H'
theorem nameF_of {x : Str} (h0 : 0 < x.length) (h8 : x.length ≤ 8) (hs : areSmall x = true) (hk : inV (.str x) keptV = false) : nameF (.str x) = true := by
  show (decide (0 < x.length) && decide (x.length ≤ 8) && (areSmall x && !inV (.str x) keptV)) = true
  rw [decide_eq_true h0, decide_eq_true h8, hs, hk]; rfl
theorem areSmall_of {x : Str} (h : ∀ c ∈ x.cps.toList, small c = true) : areSmall x = true := by
  unfold areSmall
  rw [List.all_map]
  exact List.all_eq_true.mpr h
theorem small_of {x : Str} (h : areSmall x = true) : ∀ c ∈ x.cps.toList, small c = true := by
  unfold areSmall at h
  rw [List.all_map] at h
  exact fun c hc => List.all_eq_true.mp h c hc
theorem nameF_one {c : Nat} (h : small c = true) : nameF (.str (one c)) = true := by
  have key : (SM.cps.toList.all fun c => nameF (.str (one c))) = true := by decide +kernel
  exact List.all_eq_true.mp key c (of_decide_eq_true h)
section
variable {P : Program} {w : World} {K : PySem.W.Frag} {mg : Str → Option Value} {base : Heap}
theorem scNm : FnScope ["_law_state_here", "_law_letters", "_law_built"] ["_law_state_here"] (defScope sNm) := ⟨rfl, rfl, rfl, by decide +kernel, rfl, by decide +kernel, by decide +kernel⟩
theorem ok_nm {f f1 : Addr} {fd fd1 : FuncData} (F : Fun K "_law_name" "_law_name" sNm f fd) (T : Txt2 K mg) (D1 : Def K mg "_law_draw" sDraw ["_law_state_here", "_law_many"] f1 fd1) :
    FnOk P w K mg base CX0 2 f fd ["_law_state_here"] (spTx nameF) := by
  have G1 : FnOk P w K mg base CX0 1 f1 fd1 ["_law_state_here", "_law_many"] spDraw := ok_draw D1.F
  refine F.ok scNm (fun vs H Q E h => ?_) (fun cdv A outer s H vs Q E hr h => ?_)
  · obtain ⟨p, a, b, rfl, _⟩ := h
    rfl
  · obtain ⟨p, a, b, rfl, hp, hb, k⟩ := h
    refine ⟨_, pss_cons (ps_set (i := 1) scNm.nd rfl (Or.inr rfl) pe_str)
      (pss_cons (ps_set (i := 2) scNm.nd rfl (Or.inl rfl) (pe_bm PySem.F.plainAttrs_str PySem.F.slot_str_join PySem.F.type_str_join mt_join pe_str (pa_cons
        (pe_comp rfl (pi_range1 rfl T.range (pa_cons (pe_op op_add pe_int (pe_call G1 hr rfl D1.m D1.k D1.b .nil pass0 (pa_cons (pv 0) (pa_cons pe_int pa_nil)))) pa_nil))
          (caps_of (cn := ["_law_letters", "_law_state_here"]) (caps := [1, 0]) [(".0", .local), ("_law_k", .local), ("_law_draw", .globalImplicit), ("_law_letters", .cell), ("_law_state_here", .cell)] rfl (by decide +kernel) rfl (by decide +kernel) rfl (by decide +kernel) rfl rfl
            (List.forall_mem_cons.mpr ⟨rfl, List.forall_mem_cons.mpr ⟨rfl, fun _ h => nomatch h⟩⟩)
            (by
              intro yk h
              repeat (first | (rcases List.mem_cons.mp h with h | h; · subst h; intro hk; first | exact ⟨_, rfl⟩ | (rcases hk with hk | hk <;> cases hk)) | exact absurd h (by simp)))
            (List.forall_mem_cons.mpr ⟨⟨rfl, .inr (.inl rfl), .inl rfl, .inl rfl⟩, List.forall_mem_cons.mpr ⟨⟨rfl, .inr (.inl rfl), .inl rfl, .inl rfl⟩, fun _ h => nomatch h⟩⟩))
          (fun C ex s' H' => pe_ix ix_str (pv 1) (pe_call G1 hr rfl D1.m D1.k D1.b .nil pass0 (pa_cons (pv 2) (pa_cons pe_int pa_nil))) (fun _ _ => rfl))) pa_nil)))
      (pss_cons (ps_if (pt_cmpR op_in_seq (pv 2) (pe_tup (pa_strs _ tsK rfl)) (by with_unfolding_all rfl)) (pss_one (ps_ret (pe_slice sl_str (pv 2) po_none (po_some pe_int)))) pss_nil)
      (pss_one (ps_ret (pv 2))))), ?_⟩
    have M0 := Mv.start hp hb
    refine ⟨rfl, _, rfl, p, 8, a, b, rfl, hp, by decide, by decide, hb, fun r a1 b1 r0 r1 s1 => ?_⟩
    have M1 := M0.draw (a := a1) s1
    refine ⟨_, _, rfl, rfl, 1 + r, rfl, by omega, by omega, (1 + r).toNat, fun i zs H' => i ≤ (1 + r).toNat ∧ Mv H p H' ∧ ∃ cs : List Nat, zs = (cs.map one).map V.str ∧ (∀ c ∈ cs, small c = true) ∧ cs.length = i, by rw [sizeLine_eq]; omega, ⟨Nat.zero_le _, M1, [], rfl, by simp, rfl⟩, ?_⟩
    rintro i zs H2 ⟨hi, M2, cs, rfl, h1, hl⟩
    by_cases hlt : i < (1 + r).toNat
    · refine .inr ⟨hlt, hlt, ?_⟩
      rintro x H3 ⟨rfl, rfl⟩
      obtain ⟨a2, b2, e2, s2⟩ := M2.st
      refine ⟨_, rfl, _, rfl, p, 26, a2, b2, rfl, e2, by decide, by decide, s2, fun q a4 b4 q0 q1 s4 => ?_⟩
      have M4 := M2.draw (a := a4) s4
      obtain ⟨c, hc, hm⟩ := atI_mem (xs := SM.cps.toList) q0 (by rw [show SM.cps.toList.length = 26 by decide +kernel]; exact q1)
      refine ⟨_, q, c, rfl, rfl, ?_, hc, hlt, M4, cs ++ [c], by rw [List.map_append, List.map_append]; rfl, fun d hd => ?_, by rw [List.length_append, hl]; rfl⟩
      · show SM.length ≤ _
        rw [show SM.length = 26 by decide +kernel, sizeLine_eq]; decide
      · rcases List.mem_append.mp hd with z | z
        · exact h1 d z
        · rw [List.mem_singleton.mp z]; exact decide_eq_true hm
    · refine .inl ⟨Nat.le_of_not_lt hlt, fun D hD => ?_⟩
      have M5 : Mv H p (upd H2 D (.lst ((cs.map one).map V.str))) := M2.new hD
      have hsum : ∀ cs : List Nat, ((cs.map one).map (·.length)).sum = cs.length := by
        intro cs
        induction cs with
        | nil => rfl
        | cons c r ih => rw [List.map_cons, List.map_cons, List.sum_cons, ih, List.length_cons]; show 1 + _ = _; omega
      refine ⟨_, D, cs.map one, rfl, rfl, SqL.of upd_same, joinOk_of_weight (by rw [hsum, List.length_map]; omega) (by decide +kernel), ?_⟩
      have hj := join_ones cs
      show _
      generalize Txt.join "" (cs.map one) = bu at hj
      have hbl : bu.length = cs.length := by rw [← cps_len, hj]
      have hz : bu.length ≤ sizeLine := by rw [sizeLine_eq]; omega
      have hsm : areSmall bu = true := areSmall_of (by rw [hj]; exact h1)
      refine ⟨_, rfl, small_len (by decide), fun q1 hq1 => ⟨q1, keptV, rfl, .inr (SqT.of upd_same), rfl, rfl, _, rfl, ?_⟩⟩
      have M6 := M5.new (o := .tup keptV) hq1
      show if inV (V.str bu) keptV = true then _ else _
      cases hk : inV (V.str bu) keptV with
      | false =>
        exact iteF ⟨_, rfl, k _ _ (nameF_of (by omega) (by omega) hsm hk) (by omega) M6⟩
      | true =>
        refine iteT ⟨_, rfl, _, rfl, _, rfl, hz, ?_⟩
        have hsl := slice01 bu
        obtain ⟨c, rr, ec⟩ : ∃ c rr, bu.cps.toList = c :: rr := by
          cases e : bu.cps.toList with
          | nil =>
            have : bu.length = 0 := by rw [← cps_len, e]; rfl
            omega
          | cons c rr => exact ⟨c, rr, rfl⟩
        have e1 : Txt.slice bu none (some 1) = one c := str_ext (by rw [hsl, ec]; rfl)
        rw [e1]
        exact k _ _ (nameF_one (small_of hsm c (by rw [ec]; simp))) (by show 1 ≤ 19; decide) M6
end
end K04
end
section
set_option Elab.async false
set_option linter.all false
set_option maxRecDepth 100000
set_option maxHeartbeats 1000000
namespace K04
open PySem L2 PyProof.Rows
theorem nameF_cases {x : Str} (h : nameF (.str x) = true) : 0 < x.length ∧ x.length ≤ 8 ∧ areSmall x = true := by
  have h' : (decide (0 < x.length) && decide (x.length ≤ 8) && (areSmall x && !inV (.str x) keptV)) = true := h
  rw [Bool.and_eq_true, Bool.and_eq_true, Bool.and_eq_true] at h'
  exact ⟨of_decide_eq_true h'.1.1, of_decide_eq_true h'.1.2, h'.2.1⟩
theorem cons_of {x : Str} (h : 0 < x.length) : ∃ c r, x.cps.toList = c :: r := by
  cases e : x.cps.toList with
  | nil =>
    have : x.length = 0 := by rw [← cps_len, e]; rfl
    omega
  | cons c r => exact ⟨c, r, rfl⟩
/-- a list of drawn texts -/
def Nms (f : V → Bool) (n : Nat) (xs : List V) : Prop := xs.length = n ∧ ∀ v ∈ xs, ∃ x : Str, v = .str x ∧ f (.str x) = true ∧ x.length ≤ 19
structure PoolOk (N : List V) (H : Hp) (q : Addr) : Prop where
  nm : ∃ a b c, H q = some (.tup [.ref a, .ref b, .ref c]) ∧ H a = some (.lst N)
  ex : ∃ a b c xs ys zs, H q = some (.tup [.ref a, .ref b, .ref c]) ∧ H a = some (.lst xs) ∧ H b = some (.lst ys) ∧ H c = some (.lst zs) ∧ Nms nameF 9 xs ∧ Nms formF 3 ys ∧ Nms nameF 3 zs
theorem Nms.ne {f : V → Bool} {n : Nat} {H : Hp} {a p : Addr} {xs : List V} {x y : Int} (h : Nms f (n + 1) xs) (e : H a = some (.lst xs)) (hp : H p = some (lsV x y)) : a ≠ p := fun z => by
  subst z
  rw [e] at hp
  have : xs = [.int x, .int y] := by cases hp; rfl
  subst this
  obtain ⟨s, e, _⟩ := h.2 (.int x) (by simp)
  cases e
theorem PoolOk.mv {N : List V} {H H' : Hp} {p q : Addr} {x y : Int} (h : PoolOk N H q) (hp : H p = some (lsV x y)) (M : Mv H p H') : PoolOk N H' q := by
  obtain ⟨a, b, c, xs, ys, zs, e, ea, eb, ec, na, nb, nc⟩ := h.ex
  obtain ⟨a2, b2, c2, g1, g2⟩ := h.nm
  rw [e] at g1; cases g1
  rw [ea] at g2; cases g2
  exact ⟨⟨a, b, c, M.keep _ _ e (ne_of e hp (by intro z; cases z)), M.keep _ _ ea (na.ne ea hp)⟩, a, b, c, _, ys, zs, M.keep _ _ e (ne_of e hp (by intro z; cases z)), M.keep _ _ ea (na.ne ea hp), M.keep _ _ eb (nb.ne eb hp), M.keep _ _ ec (nc.ne ec hp), na, nb, nc⟩
theorem PoolOk.eqN {N : List V} {H : Hp} {q a b c : Addr} {xs : List V} (h : PoolOk N H q) (e : H q = some (.tup [.ref a, .ref b, .ref c])) (ea : H a = some (.lst xs)) : xs = N := by
  obtain ⟨a2, b2, c2, g1, g2⟩ := h.nm
  rw [e] at g1; cases g1
  rw [ea] at g2; cases g2
  rfl
def spPool : Sp := fun vs H Q _ => ∃ (p : Addr) (a b : Int), vs = [.ref p] ∧ H p = some (lsV a b) ∧ SeedOk b ∧ ∀ q N H', PoolOk N H' q → Mv H p H' → Q (.ref q) H'
section
variable {P : Program} {w : World} {K : PySem.W.Frag} {mg : Str → Option Value} {base : Heap}
theorem scFn : FnScope ["_law_state_here", "_law_built"] ["_law_state_here"] (defScope sFn) := ⟨rfl, rfl, rfl, by decide +kernel, rfl, by decide +kernel, by decide +kernel⟩
theorem ok_fn {f f1 f2 : Addr} {fd fd1 fd2 : FuncData} (F : Fun K "_law_form_name" "_law_form_name" sFn f fd) (T : Txt2 K mg) (D1 : Def K mg "_law_draw" sDraw ["_law_state_here", "_law_many"] f1 fd1) (D2 : Def K mg "_law_name" sNm ["_law_state_here"] f2 fd2) :
    FnOk P w K mg base CX0 3 f fd ["_law_state_here"] (spTx formF) := by
  have G2 : FnOk P w K mg base CX0 2 f2 fd2 ["_law_state_here"] (spTx nameF) := ok_nm D2.F T D1
  refine F.ok scFn (fun vs H Q E h => ?_) (fun cdv A outer s H vs Q E hr h => ?_)
  · obtain ⟨p, a, b, rfl, _⟩ := h
    rfl
  · obtain ⟨p, a, b, rfl, hp, hb, k⟩ := h
    refine ⟨_, pss_cons (ps_set (i := 1) scFn.nd rfl (Or.inl rfl) (pe_call G2 hr rfl D2.m D2.k D2.b .nil pass0 (pa_cons (pv 0) pa_nil)))
      (pss_one (ps_ret (pe_op op_add_str
          (pe_bm0 PySem.F.plainAttrs_str PySem.F.slot_str_upper PySem.F.type_str_upper mt_upper (pe_slice sl_str (pv 1) po_none (po_some pe_int)))
          (pe_slice sl_str (pv 1) (po_some pe_int) po_none)))), ?_⟩
    refine ⟨_, rfl, p, a, b, rfl, hp, hb, fun x H' hx hl M => ?_⟩
    obtain ⟨h0, h8, hs⟩ := nameF_cases hx
    obtain ⟨c, r, ec⟩ := cons_of h0
    have e1 : Txt.slice x none (some 1) = one c := str_ext (by rw [slice01, ec]; rfl)
    have hz : x.length ≤ sizeLine := by rw [sizeLine_eq]; omega
    have hsc : small c = true := small_of hs c (by rw [ec]; simp)
    obtain ⟨d, ed, gd⟩ := upper_small hsc
    have hul : (Txt.upper (one c)).length = 1 := by rw [← cps_len, ed]; rfl
    have hsl : (Txt.slice x (some 1) none).cps.toList = r := by rw [slice1, ec]; rfl
    have hrl : x.length = r.length + 1 := by rw [← cps_len, ec]; rfl
    have hsl2 : (Txt.slice x (some 1) none).length = r.length := by rw [← cps_len, hsl]
    refine ⟨_, rfl, _, rfl, _, rfl, hz, rfl, _, rfl, rfl, ?_, fun hl3 => ?_⟩
    · rw [e1]; show 1 ≤ 5592405; decide
    · refine ⟨_, rfl, _, rfl, _, rfl, hz, _, _, rfl, rfl, ?_, ?_⟩
      · rw [e1, hul, hsl2, sizeLine_eq]; omega
      · rw [e1]
        have ecp : (Txt.upper (one c) ++ Txt.slice x (some 1) none).cps.toList = d :: r := by rw [app_cps, ed, hsl]; rfl
        have ln : (Txt.upper (one c) ++ Txt.slice x (some 1) none).length = x.length := by rw [← cps_len, ecp, hrl]; rfl
        refine k _ _ ?_ (by omega) M
        generalize Txt.upper (one c) ++ Txt.slice x (some 1) none = y at ecp ln
        show (decide (0 < y.length) && decide (y.length ≤ 8) && (great (y.cps.toList.headD 0) && areSmall (Txt.slice y (some 1) none))) = true
        rw [ln, decide_eq_true h0, decide_eq_true h8, ecp]
        have : areSmall (Txt.slice y (some 1) none) = true := areSmall_of (by
          rw [slice1, ecp]
          intro z hz
          exact small_of hs z (by rw [ec]; exact List.mem_cons_of_mem _ hz))
        rw [this]
        show (true && (great d && true)) = true
        rw [gd]; rfl
theorem scPool : FnScope ["_law_state_here", "_law_free"] ["_law_state_here"] (defScope sPool) := ⟨rfl, rfl, rfl, by decide +kernel, rfl, by decide +kernel, by decide +kernel⟩
theorem ok_pool {f f1 f2 f3 : Addr} {fd fd1 fd2 fd3 : FuncData} (F : Fun K "_law_pool" "_law_pool" sPool f fd) (T : Txt2 K mg) (D1 : Def K mg "_law_draw" sDraw ["_law_state_here", "_law_many"] f1 fd1) (D2 : Def K mg "_law_name" sNm ["_law_state_here"] f2 fd2)
    (D3 : Def K mg "_law_form_name" sFn ["_law_state_here"] f3 fd3) :
    FnOk P w K mg base CX0 4 f fd ["_law_state_here"] spPool := by
  have G2 : FnOk P w K mg base CX0 2 f2 fd2 ["_law_state_here"] (spTx nameF) := ok_nm D2.F T D1
  have G3 : FnOk P w K mg base CX0 3 f3 fd3 ["_law_state_here"] (spTx formF) := ok_fn D3.F T D1 D2
  refine F.ok scPool (fun vs H Q E h => ?_) (fun cdv A outer s H vs Q E hr h => ?_)
  · obtain ⟨p, a, b, rfl, _⟩ := h
    rfl
  · obtain ⟨p, a, b, rfl, hp, hb, k⟩ := h
    have hr2 : Room 2 _ := hr.mono (by decide)
    refine ⟨_, pss_cons (ps_setC (i := 1) scPool.nd rfl (Or.inl rfl) rfl (pi_range1 rfl T.range (pa_cons pe_int pa_nil))
        (caps_of (cn := ["_law_state_here"]) (caps := [0]) [(".0", .local), ("_law_k", .local), ("_law_name", .globalImplicit), ("_law_state_here", .cell)] rfl (by decide +kernel) rfl (by decide +kernel) rfl (by decide +kernel) rfl rfl
            (List.forall_mem_cons.mpr ⟨rfl, fun _ h => nomatch h⟩)
            (by
              intro yk h
              repeat (first | (rcases List.mem_cons.mp h with h | h; · subst h; intro hk; first | exact ⟨_, rfl⟩ | (rcases hk with hk | hk <;> cases hk)) | exact absurd h (by simp)))
            (List.forall_mem_cons.mpr ⟨⟨rfl, .inr (.inl rfl), .inl rfl, .inl rfl⟩, fun _ h => nomatch h⟩))
        (fun C ex s' H' => pe_call G2 hr2 rfl D2.m D2.k D2.b .nil pass0 (pa_cons (pv 1) pa_nil)))
      (pss_one (ps_ret (pe_tup (pa_cons (pv 1) (pa_cons (pe_comp rfl (pi_range1 rfl T.range (pa_cons pe_int pa_nil))
        (caps_of (cn := ["_law_state_here"]) (caps := [0]) [(".0", .local), ("_law_k", .local), ("_law_form_name", .globalImplicit), ("_law_state_here", .cell)] rfl (by decide +kernel) rfl (by decide +kernel) rfl (by decide +kernel) rfl rfl
            (List.forall_mem_cons.mpr ⟨rfl, fun _ h => nomatch h⟩)
            (by
              intro yk h
              repeat (first | (rcases List.mem_cons.mp h with h | h; · subst h; intro hk; first | exact ⟨_, rfl⟩ | (rcases hk with hk | hk <;> cases hk)) | exact absurd h (by simp)))
            (List.forall_mem_cons.mpr ⟨⟨rfl, .inr (.inl rfl), .inl rfl, .inl rfl⟩, fun _ h => nomatch h⟩))
        (fun C ex s' H' => pe_call G3 hr rfl D3.m D3.k D3.b .nil pass0 (pa_cons (pv 1) pa_nil)))
        (pa_cons (pe_lst (pa_cons (pe_call G2 hr2 rfl D2.m D2.k D2.b .nil pass0 (pa_cons (pv 0) pa_nil)) (pa_cons (pe_call G2 hr2 rfl D2.m D2.k D2.b .nil pass0 (pa_cons (pv 0) pa_nil)) (pa_cons (pe_ix ix_list (pv 1) pe_int (fun _ _ => rfl)) pa_nil)))) pa_nil)))))), ?_⟩
    have M0 := Mv.start hp hb
    refine ⟨9, rfl, by decide, by decide, 9, fun i zs H' => i ≤ 9 ∧ Mv H p H' ∧ Nms nameF i zs, by rw [sizeLine_eq]; decide, ⟨by decide, M0, rfl, fun _ h => nomatch h⟩, ?_⟩
    rintro i zs H2 ⟨hi, M2, hn⟩
    by_cases hlt : i < 9
    · refine .inr ⟨hlt, hlt, ?_⟩
      rintro x H3 ⟨rfl, rfl⟩
      obtain ⟨a2, b2, e2, s2⟩ := M2.st
      refine ⟨_, rfl, p, a2, b2, rfl, e2, s2, fun x H4 hx hl M4 => ⟨hlt, M2.trans M4, by rw [List.length_append, hn.1]; rfl, fun v hv => ?_⟩⟩
      rcases List.mem_append.mp hv with z | z
      · exact hn.2 v z
      · exact ⟨x, List.mem_singleton.mp z, hx, hl⟩
    · obtain rfl : i = 9 := by omega
      refine .inl ⟨Nat.le_refl _, fun D hD => ?_⟩
      have M3 := M2.new (o := .lst zs) hD
      have eD : upd H2 D (.lst zs) D = some (.lst zs) := upd_same
      generalize upd H2 D (.lst zs) = H3 at M3 eD
      refine ⟨_, rfl, 3, rfl, by decide, by decide, 3, fun i ys H' => i ≤ 3 ∧ Mv H3 p H' ∧ Nms formF i ys, by rw [sizeLine_eq]; decide, ⟨by decide, ⟨M3.st, fun _ _ e _ => e⟩, rfl, fun _ h => nomatch h⟩, ?_⟩
      rintro j ys H4 ⟨hj, M4, hm⟩
      obtain ⟨x3, y3, e3, _⟩ := M3.st
      by_cases hlt2 : j < 3
      · refine .inr ⟨hlt2, hlt2, ?_⟩
        rintro x H5 ⟨rfl, rfl⟩
        obtain ⟨a2, b2, e2, s2⟩ := M4.st
        refine ⟨_, rfl, p, a2, b2, rfl, e2, s2, fun x H6 hx hl M6 => ⟨hlt2, M4.trans M6, by rw [List.length_append, hm.1]; rfl, fun v hv => ?_⟩⟩
        rcases List.mem_append.mp hv with z | z
        · exact hm.2 v z
        · exact ⟨x, List.mem_singleton.mp z, hx, hl⟩
      · obtain rfl : j = 3 := by omega
        refine .inl ⟨Nat.le_refl _, fun D2' hD2 => ?_⟩
        have M5 := M4.new (o := .lst ys) hD2
        have eD2 : upd H4 D2' (.lst ys) D2' = some (.lst ys) := upd_same
        generalize upd H4 D2' (.lst ys) = H5 at M5 eD2
        obtain ⟨a5, b5, e5, s5⟩ := M5.st
        refine ⟨_, rfl, p, a5, b5, rfl, e5, s5, fun x1 H6 hx1 hl1 M6 => ?_⟩
        obtain ⟨a6, b6, e6, s6⟩ := M6.st
        refine ⟨_, rfl, p, a6, b6, rfl, e6, s6, fun x2 H7 hx2 hl2 M7 => ?_⟩
        have n1 : D ≠ p := Nms.ne (f := nameF) (n := 8) hn eD e3
        have eD7 : H7 D = some (.lst zs) := (M5.trans (M6.trans M7)).keep _ _ eD n1
        have n2 : D2' ≠ p := Nms.ne (f := formF) (n := 2) hm eD2 e5
        have eD27 : H7 D2' = some (.lst ys) := (M6.trans M7).keep _ _ eD2 n2
        obtain ⟨v, ev, hv⟩ := atI_mem (xs := zs) (q := 0) (by decide) (by rw [hn.1]; decide)
        refine ⟨_, rfl, D, zs, 0, v, rfl, rfl, SqL.of eD7, ev, small_len (by show 3 ≤ 100; decide), fun q8 h8 => ⟨small_len (by show 3 ≤ 100; decide), fun q9 h9 => ?_⟩⟩
        have nz : Nms nameF 3 [.str x1, .str x2, v] := by
          refine ⟨rfl, fun u hu => ?_⟩
          rcases List.mem_cons.mp hu with rfl | hu
          · exact ⟨x1, rfl, hx1, hl1⟩
          rcases List.mem_cons.mp hu with rfl | hu
          · exact ⟨x2, rfl, hx2, hl2⟩
          rcases List.mem_cons.mp hu with rfl | hu
          · exact hn.2 _ hv
          · cases hu
        have s89 := same_new (o := .tup [.ref D, .ref D2', .ref q8]) h9
        have s8 := same_new (o := .lst [.str x1, .str x2, v]) h8
        refine k q9 zs _ ⟨⟨D, D2', q8, upd_same, s89 _ _ (s8 _ _ eD7)⟩, D, D2', q8, zs, ys, _, upd_same, s89 _ _ (s8 _ _ eD7), s89 _ _ (s8 _ _ eD27), s89 _ _ upd_same, hn, hm, nz⟩ ?_
        exact ((M3.trans (M5.trans (M6.trans M7))).new h8).new h9
end
end K04
end
section
set_option Elab.async false
set_option linter.all false
set_option maxRecDepth 100000
set_option maxHeartbeats 1000000
namespace K04
open PySem L2 PyProof.Rows
def Atom (b : Nat) (v : V) : Prop := v = .non ∨ (∃ t, v = .bl t) ∨ (∃ i, v = .int i) ∨ ∃ x : Str, v = .str x ∧ x.length ≤ b
/-- a thing of depth n at most; its texts and tuples of length b at most -/
inductive Ok (b : Nat) (H : Hp) : Nat → V → Prop where
  | at {n : Nat} {v : V} : Atom b v → Ok b H n v
  | tup {n : Nat} {a : Addr} {xs : List V} : H a = some (.tup xs) → xs.length ≤ b → (∀ x ∈ xs, Ok b H n x) → Ok b H (n + 1) (.ref a)
  | lst {n : Nat} {a : Addr} {xs : List V} : H a = some (.lst xs) → Ok b H n (.ref a)
  | dct {n : Nat} {a : Addr} {kvs : List (Key × V)} : H a = some (.dK kvs) → Ok b H n (.ref a)
inductive IsT (N : List V) (H : Hp) (B : Int) : V → Prop where
  | free {a : Addr} {y : V} : H a = some (.tup [.str "free", y]) → nameF y = true → y ∈ N → IsT N H B (.ref a)
  | bound {a : Addr} {i : Int} : H a = some (.tup [.str "bound", .int i]) → 0 ≤ i → i < B → IsT N H B (.ref a)
  | app {a b : Addr} {w : Str} {y : V} {zs : List V} : H a = some (.tup [.str w, y, .ref b]) → ((w = "form" ∧ formF y = true) ∨ (w = "call" ∧ nameF y = true)) → H b = some (.tup zs) → zs.length ≤ 4 → (∀ z ∈ zs, IsT N H B z) → IsT N H B (.ref a)
theorem Atom.mono {b b' : Nat} {v : V} (h : Atom b v) (hb : b ≤ b') : Atom b' v := by
  rcases h with h | h | h | ⟨x, e, hl⟩
  · exact .inl h
  · exact .inr (.inl h)
  · exact .inr (.inr (.inl h))
  · exact .inr (.inr (.inr ⟨x, e, Nat.le_trans hl hb⟩))
theorem Ok.mono {b b' : Nat} {H : Hp} {n n' : Nat} {v : V} (h : Ok b H n v) (hb : b ≤ b') (hn : n ≤ n') : Ok b' H n' v := by
  induction h generalizing n' with
  | «at» h => exact .at (h.mono hb)
  | @tup n a xs e hl _ ih =>
    obtain ⟨m, rfl⟩ : ∃ m, n' = m + 1 := ⟨n' - 1, by omega⟩
    exact .tup e (Nat.le_trans hl hb) fun x hx => ih x hx (by omega)
  | lst e => exact .lst e
  | dct e => exact .dct e
/-- what stands of a heap's tuples, lists and dicts -/
def Kp (H H' : Hp) : Prop := (∀ a xs, H a = some (.tup xs) → H' a = some (.tup xs)) ∧ (∀ a xs, H a = some (.lst xs) → ∃ ys, H' a = some (.lst ys)) ∧ ∀ a kvs, H a = some (.dK kvs) → ∃ kvs', H' a = some (.dK kvs')
theorem Same.kp {H H' : Hp} (s : Same H H') : Kp H H' := ⟨fun a xs e => s _ _ e, fun a xs e => ⟨_, s _ _ e⟩, fun a xs e => ⟨_, s _ _ e⟩⟩
theorem Mv.kp {H H' : Hp} {p : Addr} {x y : Int} (M : Mv H p H') (hp : H p = some (lsV x y)) : Kp H H' := by
  refine ⟨fun a xs e => M.keep _ _ e (ne_of e hp (by intro z; cases z)), fun a xs e => ?_, fun a kvs e => ⟨_, M.keep _ _ e (ne_of e hp (by intro z; cases z))⟩⟩
  by_cases h : a = p
  · subst h
    obtain ⟨x', y', e', _⟩ := M.st
    exact ⟨_, e'⟩
  · exact ⟨_, M.keep _ _ e h⟩
theorem Ok.kp {b : Nat} {H H' : Hp} {n : Nat} {v : V} (h : Ok b H n v) (k : Kp H H') : Ok b H' n v := by
  induction h with
  | «at» h => exact .at h
  | tup e hl _ ih => exact .tup (k.1 _ _ e) hl ih
  | lst e => obtain ⟨ys, e'⟩ := k.2.1 _ _ e; exact .lst e'
  | dct e => obtain ⟨ys, e'⟩ := k.2.2 _ _ e; exact .dct e'
theorem IsT.kp {N : List V} {H H' : Hp} {B : Int} {v : V} (h : IsT N H B v) (k : Kp H H') : IsT N H' B v := by
  induction h with
  | free e h hN => exact .free (k.1 _ _ e) h hN
  | bound e h h2 => exact .bound (k.1 _ _ e) h h2
  | app e h e2 hl _ ih => exact .app (k.1 _ _ e) h (k.1 _ _ e2) hl ih
theorem Ok.thing {b : Nat} {H : Hp} {K : PySem.W.Frag} {n : Nat} {v : V} (h : Ok b H n v) (hb : b ≤ 60) : Thing K H v := by
  cases h with
  | «at» h =>
    rcases h with rfl | ⟨t, rfl⟩ | ⟨i, rfl⟩ | ⟨x, rfl, hl⟩
    · exact .inr ⟨_, .non, by rfl⟩
    · exact .inr ⟨_, .bl t, by rfl⟩
    · exact .inr ⟨_, .int i, by rfl⟩
    · exact .inl ⟨x, rfl, by omega⟩
  | tup e hl h => exact .inr ⟨_, .tup e, by rfl⟩
  | lst e => exact .inr ⟨_, .lst e, by rfl⟩
  | dct e => exact .inr ⟨_, .dK e, by rfl⟩
/-- at most m nodes -/
inductive Nd (H : Hp) : Nat → V → Prop where
  | leaf {m : Nat} {a : Addr} {xs : List V} : H a = some (.tup xs) → xs.length = 2 → 1 ≤ m → Nd H m (.ref a)
  | app {m : Nat} {a b : Addr} {w : Str} {y : V} {zs : List V} (ms : List Nat) : H a = some (.tup [.str w, y, .ref b]) → H b = some (.tup zs) → ms.length = zs.length → (∀ (i : Nat) z k, zs[i]? = some z → ms[i]? = some k → Nd H k z) → 1 + ms.sum ≤ m → Nd H m (.ref a)
theorem Nd.kp {H H' : Hp} {m : Nat} {v : V} (h : Nd H m v) (k : Kp H H') : Nd H' m v := by
  induction h with
  | leaf e l hm => exact .leaf (k.1 _ _ e) l hm
  | app ms e e2 hl _ hm ih => exact .app ms (k.1 _ _ e) (k.1 _ _ e2) hl ih hm
theorem Nd.mono {H : Hp} {m m' : Nat} {v : V} (h : Nd H m v) (hm : m ≤ m') : Nd H m' v := by
  cases h with
  | leaf e l h => exact .leaf e l (by omega)
  | app ms e e2 hl hz h => exact .app ms e e2 hl hz (by omega)
/-- a drawn term -/
def Tm (N : List V) (H : Hp) (B : Int) (n m : Nat) (v : V) : Prop := IsT N H B v ∧ Ok 19 H n v ∧ Nd H m v
theorem Tm.kp {N : List V} {H H' : Hp} {B : Int} {n m : Nat} {v : V} (h : Tm N H B n m v) (k : Kp H H') : Tm N H' B n m v := ⟨h.1.kp k, h.2.1.kp k, h.2.2.kp k⟩
theorem Tm.mono {N : List V} {H : Hp} {B : Int} {n n' m m' : Nat} {v : V} (h : Tm N H B n m v) (hn : n ≤ n') (hm : m ≤ m') : Tm N H B n' m' v := ⟨h.1, h.2.1.mono (Nat.le_refl _) hn, h.2.2.mono hm⟩
theorem IsT.more {N : List V} {H : Hp} {B B' : Int} {v : V} (h : IsT N H B v) (hB : B ≤ B') : IsT N H B' v := by
  induction h with
  | free e h hN => exact .free e h hN
  | bound e h h' => exact .bound e h (by omega)
  | app e hw e2 hl _ ih => exact .app e hw e2 hl ih
theorem Tm.more {N : List V} {H : Hp} {B B' : Int} {n m : Nat} {v : V} (h : Tm N H B n m v) (hB : B ≤ B') : Tm N H B' n m v := ⟨h.1.more hB, h.2⟩
theorem Tm.app {N : List V} {H : Hp} {B : Int} {n m : Nat} {a b : Addr} {w : Str} {y : V} {zs : List V} (ms : List Nat) (e : H a = some (.tup [.str w, y, .ref b])) (h : (w = "form" ∧ formF y = true) ∨ (w = "call" ∧ nameF y = true)) (hy : ∃ x : Str, y = .str x ∧ x.length ≤ 19)
    (e2 : H b = some (.tup zs)) (hl : zs.length ≤ 4) (hml : ms.length = zs.length) (hz : ∀ (i : Nat) z k, zs[i]? = some z → ms[i]? = some k → Tm N H B n k z) (hm : 1 + ms.sum ≤ m) : Tm N H B (n + 2) m (.ref a) := by
  have hz' : ∀ z ∈ zs, ∃ k, Tm N H B n k z := fun z hzm => by
    obtain ⟨i, hi⟩ := List.getElem?_of_mem hzm
    have hlt : i < ms.length := by rw [hml]; exact (List.getElem?_eq_some_iff.mp hi).1
    exact ⟨ms[i], hz i z _ hi (by simp [hlt])⟩
  refine ⟨.app e h e2 hl fun z hzm => (hz' z hzm).choose_spec.1, .tup e (by show 3 ≤ 19; decide) fun x hx => ?_, .app ms e e2 hml (fun i z k h1 h2 => (hz i z k h1 h2).2.2) hm⟩
  rcases List.mem_cons.mp hx with rfl | hx
  · rcases h with ⟨rfl, _⟩ | ⟨rfl, _⟩
    · exact .at (.inr (.inr (.inr ⟨_, rfl, by decide +kernel⟩)))
    · exact .at (.inr (.inr (.inr ⟨_, rfl, by decide +kernel⟩)))
  rcases List.mem_cons.mp hx with rfl | hx
  · obtain ⟨z, rfl, hl⟩ := hy
    exact .at (.inr (.inr (.inr ⟨_, rfl, hl⟩)))
  rcases List.mem_cons.mp hx with rfl | hx
  · exact .tup e2 (by omega) fun z hzm => (hz' z hzm).choose_spec.2.1
  · cases hx
theorem sum_rep (k s : Nat) : (List.replicate k s).sum = k * s := by simp
/-- the bound on the nodes of a term drawn n deep -/
def nbd : Nat → Nat
  | 0 => 1
  | n + 1 => 1 + 4 * nbd n
/-- the arguments of what draws a term -/
def spLeaf (N : List V) : Sp := fun vs H Q _ => ∃ (p q : Addr) (a b bd : Int), vs = [.ref p, .ref q, .int bd] ∧ H p = some (lsV a b) ∧ SeedOk b ∧ PoolOk N H q ∧ 0 ≤ bd ∧ bd ≤ 1000 ∧ ∀ v H', Tm N H' bd 1 1 v → Mv H p H' → Q v H'
def spGen (N : List V) (n : Nat) : Sp := fun vs H Q _ => ∃ (p q : Addr) (a b bd : Int), vs = [.ref p, .ref q, .int n, .int bd] ∧ H p = some (lsV a b) ∧ SeedOk b ∧ PoolOk N H q ∧ 0 ≤ bd ∧ bd ≤ 1000 ∧ ∀ v H', Tm N H' bd (2 * n + 1) (nbd n) v → Mv H p H' → Q v H'
def spRec (N : List V) : Nat → Sp
  | 0 => fun _ _ _ _ => False
  | n + 1 => spGen N n
section
variable {N : List V} {P : Program} {w : World} {K : PySem.W.Frag} {mg : Str → Option Value} {base : Heap}
theorem scLeaf : FnScope ["_law_state_here", "_law_pool_here", "_law_bounds"] ["_law_state_here", "_law_pool_here", "_law_bounds"] (defScope sLeaf) := ⟨rfl, rfl, rfl, by decide +kernel, rfl, by decide +kernel, by decide +kernel⟩
theorem ok_leaf {f f1 : Addr} {fd fd1 : FuncData} (F : Fun K "_law_leaf" "_law_leaf" sLeaf f fd) (T : Txt2 K mg) (D1 : Def K mg "_law_draw" sDraw ["_law_state_here", "_law_many"] f1 fd1) :
    FnOk P w K mg base CX0 2 f fd ["_law_state_here", "_law_pool_here", "_law_bounds"] (spLeaf N) := by
  have G1 : FnOk P w K mg base CX0 1 f1 fd1 ["_law_state_here", "_law_many"] spDraw := ok_draw D1.F
  refine F.ok scLeaf (fun vs H Q E h => ?_) (fun cdv A outer s H vs Q E hr h => ?_)
  · obtain ⟨p, q, a, b, bd, rfl, _⟩ := h
    rfl
  · obtain ⟨p, q, a, b, bd, rfl, hp, hb, hq, bd0, bd1, k⟩ := h
    refine ⟨_, pss_cons (ps_if (PW.pt (pw_and (pt_cmpR op_gt (pv 2) pe_int (nomark _)) (pw_and1 (pt_cmpR op_gt (pe_call G1 hr rfl D1.m D1.k D1.b .nil pass0 (pa_cons (pv 0) (pa_cons pe_int pa_nil))) pe_int (nomark _)))))
        (pss_one (ps_ret (pe_tup (pa_cons pe_str (pa_cons (pe_call G1 hr rfl D1.m D1.k D1.b .nil pass0 (pa_cons (pv 0) (pa_cons (pv 2) pa_nil))) pa_nil))))) pss_nil)
      (pss_one (ps_ret (pe_tup (pa_cons pe_str (pa_cons (pe_ix ix_list (pe_ix ix_tup (pv 1) pe_int (fun _ _ => rfl)) (pe_call G1 hr rfl D1.m D1.k D1.b .nil pass0 (pa_cons (pv 0) (pa_cons pe_int pa_nil))) (fun _ _ => rfl)) pa_nil))))), ?_⟩
    have M0 := Mv.start hp hb
    obtain ⟨qa, qb, qc, xs, ys, zs, eq, ea, eb, ec, na, nb, nc⟩ := hq.ex
    have tail : ∀ H1, Mv H p H1 → ∃ x y : Int, H1 p = some (lsV x y) ∧ SeedOk y ∧ H1 q = some (.tup [.ref qa, .ref qb, .ref qc]) ∧ H1 qa = some (.lst xs) := fun H1 M => by
      obtain ⟨x, y, e, s⟩ := M.st
      exact ⟨x, y, e, s, M.keep _ _ eq (ne_of eq hp (by intro z; cases z)), M.keep _ _ ea (na.ne ea hp)⟩
    have fin : ∀ H1, Mv H p H1 → ∀ r x' y', 0 ≤ r → r < 9 → SeedOk y' → ∃ v, atI xs r = some v ∧ ∀ q8, upd H1 p (lsV x' y') q8 = none → Q (.ref q8) (upd (upd H1 p (lsV x' y')) q8 (.tup [.str "free", v])) := fun H1 M r x' y' r0 r1 sd => by
      obtain ⟨v, ev, hv⟩ := atI_mem (xs := xs) r0 (by rw [na.1]; exact r1)
      obtain ⟨x, rfl, hx, hl⟩ := na.2 v hv
      refine ⟨_, ev, fun q8 h8 => k _ _ ⟨.free upd_same hx (by rw [← hq.eqN eq ea]; exact hv), .tup upd_same (by show 2 ≤ 19; decide) fun u hu => ?_, .leaf upd_same rfl (Nat.le_refl _)⟩ ((M.draw sd).new h8)⟩
      rcases List.mem_cons.mp hu with rfl | hu
      · exact .at (.inr (.inr (.inr ⟨_, rfl, by decide +kernel⟩)))
      rcases List.mem_cons.mp hu with rfl | hu
      · exact .at (.inr (.inr (.inr ⟨_, rfl, hl⟩)))
      · cases hu
    refine ⟨_, rfl, _, _, rfl, rfl, _, rfl, ?_⟩
    cases h0 : decide ((0 : Int) < bd) with
    | false =>
      obtain ⟨x1, y1, e1, sd1, eq1, ea1⟩ := tail H M0
      refine iteF (iteF ⟨_, rfl, q, _, 0, _, rfl, rfl, SqT.of eq1, rfl, _, rfl, p, 9, x1, y1, rfl, e1, by decide, by decide, sd1, fun r x2 y2 r0 r1 sd2 => ?_⟩)
      obtain ⟨v, ev, hf⟩ := fin H M0 r x2 y2 r0 r1 sd2
      exact ⟨qa, xs, r, v, rfl, rfl, SqL.of (by rw [upd_ne (na.ne ea hp)]; exact ea1), ev, small_len (by show 2 ≤ 100; decide), hf⟩
    | true =>
      have hbd : 0 < bd := of_decide_eq_true h0
      refine iteT ⟨_, rfl, p, 3, a, b, rfl, hp, by decide, by decide, hb, fun r x1 y1 r0 r1 sd1 => ⟨_, _, rfl, rfl, _, rfl, ?_⟩⟩
      have M1 := M0.draw (a := x1) sd1
      refine ite2 (fun _ => ?_) (fun _ => ?_)
      · refine ⟨_, rfl, _, rfl, p, bd, x1, y1, rfl, upd_same, hbd, by omega, sd1, fun r2 x2 y2 r20 r21 sd2 => ⟨small_len (by show 2 ≤ 100; decide), fun q8 h8 => ?_⟩⟩
        refine k _ _ ⟨.bound upd_same r20 r21, .tup upd_same (by show 2 ≤ 19; decide) fun u hu => ?_, .leaf upd_same rfl (Nat.le_refl _)⟩ ((M1.draw sd2).new h8)
        rcases List.mem_cons.mp hu with rfl | hu
        · exact .at (.inr (.inr (.inr ⟨_, rfl, by decide +kernel⟩)))
        rcases List.mem_cons.mp hu with rfl | hu
        · exact .at (.inr (.inr (.inl ⟨_, rfl⟩)))
        · cases hu
      · obtain ⟨x2, y2, e2, sd2, eq2, ea2⟩ := tail _ M1
        refine ⟨_, rfl, q, _, 0, _, rfl, rfl, SqT.of eq2, rfl, _, rfl, p, 9, x2, y2, rfl, e2, by decide, by decide, sd2, fun r x3 y3 r0 r1 sd3 => ?_⟩
        obtain ⟨v, ev, hf⟩ := fin _ M1 r x3 y3 r0 r1 sd3
        exact ⟨qa, xs, r, v, rfl, rfl, SqL.of (by rw [upd_ne (na.ne ea hp)]; exact ea2), ev, small_len (by show 2 ≤ 100; decide), hf⟩
end
end K04
end
section
set_option Elab.async false
set_option linter.all false
set_option maxRecDepth 100000
set_option maxHeartbeats 1000000
namespace K04
open PySem L2 PyProof.Rows
section
variable {N : List V} {P : Program} {w : World} {K : PySem.W.Frag} {mg : Str → Option Value} {base : Heap}
abbrev genPs : List Str := ["_law_state_here", "_law_pool_here", "_law_deep", "_law_bounds"]
theorem scGen : FnScope ["_law_state_here", "_law_pool_here", "_law_deep", "_law_bounds", "_law_sort", "_law_args"] genPs (defScope sGen) := ⟨rfl, rfl, rfl, by decide +kernel, rfl, by decide +kernel, by decide +kernel⟩
theorem ok_gen1 {n : Nat} {f f1 f2 : Addr} {fd fd1 fd2 : FuncData} (D : Def K mg "_law_term" sGen genPs f fd) (T : Txt2 K mg) (D1 : Def K mg "_law_draw" sDraw ["_law_state_here", "_law_many"] f1 fd1) (D2 : Def K mg "_law_leaf" sLeaf ["_law_state_here", "_law_pool_here", "_law_bounds"] f2 fd2)
    (R : FnOk P w K mg base CX0 (n + 2) f fd genPs (spRec N n)) : FnOk P w K mg base CX0 (n + 3) f fd genPs (spGen N n) := by
  have G1 : FnOk P w K mg base CX0 1 f1 fd1 ["_law_state_here", "_law_many"] spDraw := ok_draw D1.F
  have G2 : FnOk P w K mg base CX0 2 f2 fd2 ["_law_state_here", "_law_pool_here", "_law_bounds"] (spLeaf N) := ok_leaf D2.F T D1
  refine D.F.ok scGen (fun vs H Q E h => ?_) (fun cdv A outer s H vs Q E hr h => ?_)
  · obtain ⟨p, q, a, b, bd, rfl, _⟩ := h
    rfl
  · obtain ⟨p, q, a, b, bd, rfl, hp, hb, hq, bd0, bd1, k⟩ := h
    have hr1 : Room 1 _ := hr.mono (by omega)
    have hr2 : Room 2 _ := hr.mono (by omega)
    refine ⟨_, pss_cons (ps_set (i := 4) scGen.nd rfl (Or.inl rfl) (pe_call G1 hr1 rfl D1.m D1.k D1.b .nil pass0 (pa_cons (pv 0) (pa_cons pe_int pa_nil))))
      (pss_cons (ps_if (PW.pt (pw_or (pt_cmpR op_eq (pv 2) pe_int (nomark _)) (pw_or1 (pt_cmpR op_lt (pv 4) pe_int (nomark _))))) (pss_one (ps_ret (pe_call G2 hr2 rfl D2.m D2.k D2.b .nil pass0 (pa_cons (pv 0) (pa_cons (pv 1) (pa_cons (pv 3) pa_nil)))))) pss_nil)
      (pss_cons (ps_set (i := 5) scGen.nd rfl (Or.inl rfl) (pe_callTy call_tuple_of (by rfl) T.tuple boot_tuple (pa_cons
        (pe_comp rfl (pi_range1 rfl T.range (pa_cons (pe_call G1 hr1 rfl D1.m D1.k D1.b .nil pass0 (pa_cons (pv 0) (pa_cons pe_int pa_nil))) pa_nil))
          (caps_of (cn := ["_law_bounds", "_law_deep", "_law_pool_here", "_law_state_here"]) (caps := [3, 2, 1, 0]) [(".0", .local), ("_law_k", .local), ("_law_term", .globalImplicit), ("_law_bounds", .cell), ("_law_deep", .cell), ("_law_pool_here", .cell), ("_law_state_here", .cell)] rfl (by decide +kernel) rfl (by decide +kernel) rfl (by decide +kernel) rfl rfl
            (List.forall_mem_cons.mpr ⟨rfl, List.forall_mem_cons.mpr ⟨rfl, List.forall_mem_cons.mpr ⟨rfl, List.forall_mem_cons.mpr ⟨rfl, fun _ h => nomatch h⟩⟩⟩⟩)
            (by
              intro yk h
              repeat (first | (rcases List.mem_cons.mp h with h | h; · subst h; intro hk; first | exact ⟨_, rfl⟩ | (rcases hk with hk | hk <;> cases hk)) | exact absurd h (by simp)))
            (List.forall_mem_cons.mpr ⟨⟨rfl, .inr (.inl rfl), .inl rfl, .inl rfl⟩, List.forall_mem_cons.mpr ⟨⟨rfl, .inr (.inl rfl), .inl rfl, .inl rfl⟩, List.forall_mem_cons.mpr ⟨⟨rfl, .inr (.inl rfl), .inl rfl, .inl rfl⟩, List.forall_mem_cons.mpr ⟨⟨rfl, .inr (.inl rfl), .inl rfl, .inl rfl⟩, fun _ h => nomatch h⟩⟩⟩⟩))
          (fun C ex s' H' => pe_call R hr rfl D.m D.k D.b .nil pass0 (pa_cons (pv 4) (pa_cons (pv 3) (pa_cons (pe_op op_sub (pv 2) pe_int) (pa_cons (pv 1) pa_nil)))))) pa_nil)))
      (pss_cons (ps_if (pt_cmpR op_lt (pv 4) pe_int (nomark _))
        (pss_one (ps_ret (pe_tup (pa_cons pe_str (pa_cons (pe_ix ix_list (pe_ix ix_tup (pv 1) pe_int (fun _ _ => rfl)) (pe_call G1 hr1 rfl D1.m D1.k D1.b .nil pass0 (pa_cons (pv 0) (pa_cons pe_int pa_nil))) (fun _ _ => rfl)) (pa_cons (pv 5) pa_nil)))))) pss_nil)
      (pss_one (ps_ret (pe_tup (pa_cons pe_str (pa_cons (pe_ix ix_list (pe_ix ix_tup (pv 1) pe_int (fun _ _ => rfl)) (pe_call G1 hr1 rfl D1.m D1.k D1.b .nil pass0 (pa_cons (pv 0) (pa_cons pe_int pa_nil))) (fun _ _ => rfl)) (pa_cons (pv 5) pa_nil))))))))), ?_⟩
    have M0 := Mv.start hp hb
    refine ⟨_, rfl, p, 6, a, b, rfl, hp, by decide, by decide, hb, fun sort x1 y1 r0 r1 sd1 => ?_⟩
    have M1 := M0.draw (a := x1) sd1
    have e1 : upd H p (lsV x1 y1) p = some (lsV x1 y1) := upd_same
    generalize upd H p (lsV x1 y1) = H1 at M1 e1
    have hq1 := hq.mv hp M1
    have leaf : (spLeaf N) [.ref p, .ref q, .int bd] H1 Q E0 := ⟨p, q, x1, y1, bd, rfl, e1, sd1, hq1, bd0, bd1, fun v H' hv M' => k v H' (hv.mono (by omega) (by cases n with | zero => exact Nat.le_refl _ | succ n => show 1 ≤ 1 + 4 * nbd n; omega)) (M1.trans M')⟩
    refine ⟨_, rfl, rfl, _, rfl, ?_⟩
    cases n with
    | zero =>
      refine iteT (iteT ⟨_, rfl, _, rfl, _, rfl, leaf⟩)
    | succ n =>
      have h0 : decide ((((n + 1 : Nat)) : Int) = 0) = false := decide_eq_false (by omega)
      show if decide ((((n + 1 : Nat)) : Int) = 0) = true then _ else _
      rw [h0]
      refine iteF ⟨_, rfl, _, _, rfl, rfl, _, rfl, ?_⟩
      refine ite2 (fun _ => ⟨_, rfl, _, rfl, _, rfl, leaf⟩) (fun _ => ?_)
      refine ⟨_, rfl, p, 5, x1, y1, rfl, e1, by decide, by decide, sd1, fun r x2 y2 r20 r21 sd2 => ?_⟩
      have M2 := M1.draw (a := x2) sd2
      refine ⟨r, rfl, by omega, by omega, r.toNat, fun i zs H' => i ≤ r.toNat ∧ Mv H p H' ∧ zs.length = i ∧ ∀ z ∈ zs, Tm N H' bd (2 * n + 1) (nbd n) z, by rw [sizeLine_eq]; omega, ⟨Nat.zero_le _, M2, rfl, fun _ h => nomatch h⟩, ?_⟩
      rintro i zs H2 ⟨hi, M3, hl, hz⟩
      obtain ⟨x3, y3, e3, sd3⟩ := M3.st
      have hq3 := hq.mv hp M3
      by_cases hlt : i < r.toNat
      · refine .inr ⟨hlt, hlt, ?_⟩
        rintro x H3 ⟨rfl, rfl⟩
        refine ⟨_, rfl, _, rfl, _, rfl, _, _, rfl, rfl, _, rfl, p, q, x3, y3, bd, ?_, e3, sd3, hq3, bd0, bd1, fun v H4 hv M4 => ⟨hlt, M3.trans M4, by rw [List.length_append, hl]; rfl, fun z hm => ?_⟩⟩
        · show [V.ref p, V.ref q, V.int (((n + 1 : Nat) : Int) - 1), V.int bd] = _
          rw [show ((n + 1 : Nat) : Int) - 1 = (n : Int) by omega]
        · rcases List.mem_append.mp hm with hm | hm
          · exact (hz z hm).kp (M4.kp e3)
          · rw [List.mem_singleton.mp hm]; exact hv
      · refine .inl ⟨Nat.le_of_not_lt hlt, fun D' hD => ?_⟩
        have M4 := M3.new (o := .lst zs) hD
        have eL : upd H2 D' (.lst zs) D' = some (.lst zs) := upd_same
        have sL := same_new (o := .lst zs) hD
        generalize upd H2 D' (.lst zs) = H4 at M4 eL sL
        refine ⟨D', zs, rfl, .inl ⟨SqL.of eL, fun t ht => ?_⟩⟩
        have M5 := M4.new (o := .tup zs) ht
        have eT : upd H4 t (.tup zs) t = some (.tup zs) := upd_same
        have sT := same_new (o := .tup zs) ht
        generalize upd H4 t (.tup zs) = H5 at M5 eT sT
        have hz5 : ∀ z ∈ zs, Tm N H5 bd (2 * n + 1) (nbd n) z := fun z hm => (hz z hm).kp (Same.kp (sL.trans sT))
        have hq5 := hq.mv hp M5
        obtain ⟨qa, qb, qc, xs, ys, zs', eq, ea, eb, ec, na, nb, nc⟩ := hq5.ex
        obtain ⟨x5, y5, e5, sd5⟩ := M5.st
        have fin : ∀ (wd : Str) (u : Addr) (us : List V) (g : V → Bool), H5 u = some (.lst us) → Nms g 3 us → (wd = "form" ∧ g = formF ∨ wd = "call" ∧ g = nameF) → ∀ r x' y', 0 ≤ r → r < 3 → SeedOk y' → ∃ v, SqL K (upd H5 p (lsV x' y')) u us ∧ atI us r = some v ∧
            ∀ q8, upd H5 p (lsV x' y') q8 = none → Q (.ref q8) (upd (upd H5 p (lsV x' y')) q8 (.tup [.str wd, v, .ref t])) := fun wd u us g eu nu hw r x' y' r0 r1 sd => by
          obtain ⟨v, ev, hv⟩ := atI_mem (xs := us) r0 (by rw [nu.1]; exact r1)
          obtain ⟨x, rfl, hx, hxl⟩ := nu.2 v hv
          have nup : u ≠ p := nu.ne eu e5
          have ntp : t ≠ p := ne_of eT e5 (by intro z; cases z)
          refine ⟨_, SqL.of (by rw [upd_ne nup]; exact eu), ev, fun q8 h8 => k _ _ ?_ ((M5.draw sd).new h8)⟩
          have s8 := same_new (o := .tup [.str wd, .str x, .ref t]) h8
          have kp : Kp H5 (upd (upd H5 p (lsV x' y')) q8 (.tup [.str wd, .str x, .ref t])) := by
            have M' : Mv H5 p (upd H5 p (lsV x' y')) := ⟨⟨_, _, upd_same, sd⟩, fun c o e n => by rw [upd_ne n]; exact e⟩
            exact (M'.new h8).kp e5
          refine Tm.app (n := 2 * n + 1) (List.replicate zs.length (nbd n)) upd_same ?_ ⟨x, rfl, hxl⟩ (s8 _ _ (by rw [upd_ne ntp]; exact eT)) (by omega) (by simp) (fun i z k' h1 h2 => ?_) (by rw [sum_rep]; show 1 + zs.length * nbd n ≤ 1 + 4 * nbd n; have : zs.length * nbd n ≤ 4 * nbd n := Nat.mul_le_mul_right _ (by omega); omega)
          · rcases hw with ⟨rfl, rfl⟩ | ⟨rfl, rfl⟩
            · exact .inl ⟨rfl, hx⟩
            · exact .inr ⟨rfl, hx⟩
          · have ek : k' = nbd n := by
              have := List.mem_of_getElem? h2
              exact (List.mem_replicate.mp this).2
            rw [ek]
            exact (hz5 z (List.mem_of_getElem? h1)).kp kp
        have npq : ∀ x' y', upd H5 p (lsV x' y') q = some (.tup [.ref qa, .ref qb, .ref qc]) := fun x' y' => by rw [upd_ne (ne_of eq e5 (by intro z; cases z))]; exact eq
        refine ⟨_, rfl, _, _, rfl, rfl, _, rfl, ?_⟩
        refine ite2 (fun _ => ?_) (fun _ => ?_)
        · refine ⟨_, rfl, q, _, 1, _, rfl, rfl, SqT.of eq, rfl, _, rfl, p, 3, x5, y5, rfl, e5, by decide, by decide, sd5, fun r x6 y6 r60 r61 sd6 => ?_⟩
          obtain ⟨v, hS, ev, hf⟩ := fin "form" qb ys formF eb nb (.inl ⟨rfl, rfl⟩) r x6 y6 r60 r61 sd6
          exact ⟨qb, ys, r, v, rfl, rfl, hS, ev, _, rfl, small_len (by show 3 ≤ 100; decide), hf⟩
        · refine ⟨_, rfl, q, _, 2, _, rfl, rfl, SqT.of eq, rfl, _, rfl, p, 3, x5, y5, rfl, e5, by decide, by decide, sd5, fun r x6 y6 r60 r61 sd6 => ?_⟩
          obtain ⟨v, hS, ev, hf⟩ := fin "call" qc zs' nameF ec nc (.inr ⟨rfl, rfl⟩) r x6 y6 r60 r61 sd6
          exact ⟨qc, zs', r, v, rfl, rfl, hS, ev, _, rfl, small_len (by show 3 ≤ 100; decide), hf⟩
theorem ok_gen {f f1 f2 : Addr} {fd fd1 fd2 : FuncData} (D : Def K mg "_law_term" sGen genPs f fd) (T : Txt2 K mg) (D1 : Def K mg "_law_draw" sDraw ["_law_state_here", "_law_many"] f1 fd1) (D2 : Def K mg "_law_leaf" sLeaf ["_law_state_here", "_law_pool_here", "_law_bounds"] f2 fd2) :
    ∀ n : Nat, FnOk P w K mg base CX0 (n + 3) f fd genPs (spGen N n)
  | 0 => ok_gen1 D T D1 D2 (D.F.ok scGen (fun _ _ _ _ h => h.elim) fun _ _ _ _ _ _ _ _ _ h => h.elim)
  | n + 1 => ok_gen1 D T D1 D2 (ok_gen D T D1 D2 n)
end
end K04
end
section
set_option Elab.async false
set_option linter.all false
set_option maxRecDepth 100000
set_option maxHeartbeats 1000000
namespace K04
open PySem L2 PyProof.Rows
def spTall (N : List V) : Sp := fun vs H Q _ => ∃ (p q : Addr) (a b B : Int) (v : V) (m : Nat), vs = [.ref p, .ref q, v, .int m] ∧ 0 ≤ B ∧ H p = some (lsV a b) ∧ SeedOk b ∧ PoolOk N H q ∧ Tm N H B 1 1 v ∧ m ≤ 60 ∧ ∀ v' H', Tm N H' B (1 + 2 * m) (1 + 4 * m) v' → Mv H p H' → Q v' H'
def spAny (N : List V) : Sp := fun vs H Q _ => ∃ (p q : Addr) (a b bd : Int), vs = [.ref p, .ref q, .int bd] ∧ H p = some (lsV a b) ∧ SeedOk b ∧ PoolOk N H q ∧ 0 ≤ bd ∧ bd ≤ 1000 ∧ ∀ v' H', Tm N H' bd 121 300 v' → Mv H p H' → Q v' H'
theorem nb_le {n : Nat} (h : n < 4) : nbd n ≤ 300 := by
  match n, h with
  | 0, _ => exact (by decide : nbd 0 ≤ 300)
  | 1, _ => exact (by decide : nbd 1 ≤ 300)
  | 2, _ => exact (by decide : nbd 2 ≤ 300)
  | 3, _ => exact (by decide : nbd 3 ≤ 300)
section
variable {N : List V} {P : Program} {w : World} {K : PySem.W.Frag} {mg : Str → Option Value} {base : Heap}
abbrev tallPs : List Str := ["_law_state_here", "_law_pool_here", "_law_t", "_law_many"]
theorem scTall : FnScope ["_law_state_here", "_law_pool_here", "_law_t", "_law_many", "_law_k", "_law_beside"] tallPs (defScope sTall) := ⟨rfl, rfl, rfl, by decide +kernel, rfl, by decide +kernel, by decide +kernel⟩
theorem ok_tall {f f1 f2 : Addr} {fd fd1 fd2 : FuncData} (F : Fun K "_law_tall" "_law_tall" sTall f fd) (T : Txt2 K mg) (D1 : Def K mg "_law_draw" sDraw ["_law_state_here", "_law_many"] f1 fd1) (D2 : Def K mg "_law_leaf" sLeaf ["_law_state_here", "_law_pool_here", "_law_bounds"] f2 fd2) :
    FnOk P w K mg base CX0 3 f fd tallPs (spTall N) := by
  have G1 : FnOk P w K mg base CX0 1 f1 fd1 ["_law_state_here", "_law_many"] spDraw := ok_draw D1.F
  have G2 : FnOk P w K mg base CX0 2 f2 fd2 ["_law_state_here", "_law_pool_here", "_law_bounds"] (spLeaf N) := ok_leaf D2.F T D1
  refine F.ok scTall (fun vs H Q E h => ?_) (fun cdv A outer s H vs Q E hr h => ?_)
  · obtain ⟨p, q, a, b, B, v, m, rfl, _⟩ := h
    rfl
  · obtain ⟨p, q, a, b, B, v, m, rfl, hB, hp, hb, hq, hv, hm, k⟩ := h
    have hr1 : Room 1 _ := hr.mono (by decide)
    refine ⟨_, pss_cons (ps_for PassesOwn.never rfl (pi_range1 rfl T.range (pa_cons (pv 3) pa_nil)) (pg_name (i := 4) scTall.nd rfl (Or.inl rfl))
      (pss_cons (ps_set (i := 5) scTall.nd rfl (Or.inl rfl) (pe_callTy call_tuple_of (by rfl) T.tuple boot_tuple (pa_cons
        (pe_comp rfl (pi_range1 rfl T.range (pa_cons (pe_call G1 hr1 rfl D1.m D1.k D1.b .nil pass0 (pa_cons (pv 0) (pa_cons pe_int pa_nil))) pa_nil))
          (caps_of (cn := ["_law_pool_here", "_law_state_here"]) (caps := [1, 0]) [(".0", .local), ("_law_j", .local), ("_law_leaf", .globalImplicit), ("_law_pool_here", .cell), ("_law_state_here", .cell)] rfl (by decide +kernel) rfl (by decide +kernel) rfl (by decide +kernel) rfl rfl
            (List.forall_mem_cons.mpr ⟨rfl, List.forall_mem_cons.mpr ⟨rfl, fun _ h => nomatch h⟩⟩)
            (by
              intro yk h
              repeat (first | (rcases List.mem_cons.mp h with h | h; · subst h; intro hk; first | exact ⟨_, rfl⟩ | (rcases hk with hk | hk <;> cases hk)) | exact absurd h (by simp)))
            (List.forall_mem_cons.mpr ⟨⟨rfl, .inr (.inl rfl), .inl rfl, .inl rfl⟩, List.forall_mem_cons.mpr ⟨⟨rfl, .inr (.inl rfl), .inl rfl, .inl rfl⟩, fun _ h => nomatch h⟩⟩))
          (fun C ex s' H' => pe_call G2 hr rfl D2.m D2.k D2.b .nil pass0 (pa_cons (pv 2) (pa_cons (pv 1) (pa_cons pe_int pa_nil))))) pa_nil)))
      (pss_one (ps_set (i := 2) scTall.nd rfl (Or.inl rfl) (pe_tup (pa_cons (pe_ix ix_list (pe_lst (pa_cons pe_str (pa_cons pe_str pa_nil))) (pe_op op_mod (pv 4) pe_int) (fun _ _ => rfl))
        (pa_cons (pe_ix ix_list (pe_ix ix_tup (pv 1) (pe_op op_add pe_int (pe_op op_mod (pv 4) pe_int)) (fun _ _ => rfl)) (pe_call G1 hr1 rfl D1.m D1.k D1.b .nil pass0 (pa_cons (pv 0) (pa_cons pe_int pa_nil))) (fun _ _ => rfl))
        (pa_cons (pe_op op_catA (pv 5) (pe_tup (pa_cons (pv 2) pa_nil))) pa_nil))))))))
      (pss_one (ps_ret (pv 2))), ?_⟩
    have M0 := Mv.start hp hb
    refine ⟨_, rfl, m, rfl, by omega, by omega, for_range (n := m) (fun i σ H2 => ∃ v' v4 v5, σ = [some (.ref p), some (.ref q), some v', some (.int m), v4, v5] ∧ Mv H p H2 ∧ Tm N H2 B (1 + 2 * i) (1 + 4 * i) v') ⟨v, _, _, rfl, M0, hv⟩ ?_ ?_⟩
    · rintro i σ H2 hi ⟨v', v4, v5, rfl, M2, hv'⟩
      obtain ⟨x2, y2, e2, sd2⟩ := M2.st
      refine ⟨_, rfl, p, 3, x2, y2, rfl, e2, by decide, by decide, sd2, fun r x3 y3 r0 r1 sd3 => ?_⟩
      have M3 : Mv H2 p (upd H2 p (lsV x3 y3)) := (Mv.start e2 sd2).draw sd3
      refine ⟨r, rfl, by omega, by omega, r.toNat, fun i zs H' => i ≤ r.toNat ∧ Mv H2 p H' ∧ zs.length = i ∧ ∀ z ∈ zs, Tm N H' B 1 1 z, by rw [sizeLine_eq]; omega, ⟨Nat.zero_le _, M3, rfl, fun _ h => nomatch h⟩, ?_⟩
      rintro j zs H3 ⟨hj, M4, hl, hz⟩
      obtain ⟨x4, y4, e4, sd4⟩ := M4.st
      have hq4 := hq.mv hp (M2.trans M4)
      by_cases hlt : j < r.toNat
      · refine .inr ⟨hlt, hlt, ?_⟩
        rintro x H4 ⟨rfl, rfl⟩
        refine ⟨_, rfl, _, rfl, p, q, x4, y4, 0, rfl, e4, sd4, hq4, by decide, by decide, fun u H5 hu M5 => ⟨hlt, M4.trans M5, by rw [List.length_append, hl]; rfl, fun z hm => ?_⟩⟩
        rcases List.mem_append.mp hm with hm | hm
        · exact (hz z hm).kp (M5.kp e4)
        · rw [List.mem_singleton.mp hm]; exact hu.more hB
      · refine .inl ⟨Nat.le_of_not_lt hlt, fun D' hD => ?_⟩
        have eL : upd H3 D' (.lst zs) D' = some (.lst zs) := upd_same
        have sL := same_new (o := .lst zs) hD
        generalize upd H3 D' (.lst zs) = H4 at eL sL
        refine ⟨D', zs, rfl, .inl ⟨SqL.of eL, fun t ht => ?_⟩⟩
        have eT : upd H4 t (.tup zs) t = some (.tup zs) := upd_same
        have sT := same_new (o := .tup zs) ht
        generalize upd H4 t (.tup zs) = H5 at eT sT
        refine ⟨small_len (by show 2 ≤ 100; decide), fun ql hql => ?_⟩
        have eQ : upd H5 ql (.lst [.str "form", .str "call"]) ql = some (.lst [.str "form", .str "call"]) := upd_same
        have sQ := same_new (o := .lst [.str "form", .str "call"]) hql
        generalize upd H5 ql (.lst [.str "form", .str "call"]) = H6 at eQ sQ
        have s36 : Same H3 H6 := sL.trans (sT.trans sQ)
        have M6 : Mv H2 p H6 := M4.same s36
        have hq6 := hq.mv hp (M2.trans M6)
        obtain ⟨qa, qb, qc, xs, ys, zs', eq, ea, eb, ec, na, nb, nc⟩ := hq6.ex
        obtain ⟨x6, y6, e6, sd6⟩ := M6.st
        obtain ⟨wd, u, us, g, hw, hu, eu, nu, hc⟩ : ∃ (wd : Str) (u : Addr) (us : List V) (g : V → Bool), atI [V.str "form", .str "call"] ((0 + (i : Int)) % 2) = some (.str wd) ∧ atI [V.ref qa, .ref qb, .ref qc] (1 + (0 + (i : Int)) % 2) = some (.ref u) ∧ H6 u = some (.lst us) ∧ Nms g 3 us ∧
            (wd = "form" ∧ g = formF ∨ wd = "call" ∧ g = nameF) := by
          have : (0 + (i : Int)) % 2 = 0 ∨ (0 + (i : Int)) % 2 = 1 := by omega
          rcases this with h | h
          · rw [h]; exact ⟨"form", qb, ys, formF, rfl, rfl, eb, nb, .inl ⟨rfl, rfl⟩⟩
          · rw [h]; exact ⟨"call", qc, zs', nameF, rfl, rfl, ec, nc, .inr ⟨rfl, rfl⟩⟩
        refine ⟨_, rfl, _, _, rfl, rfl, (by show (0 : Int) < 2; decide), ql, _, _, _, rfl, rfl, SqL.of eQ, hw, ?_⟩
        refine ⟨_, rfl, _, rfl, _, _, rfl, rfl, (by show (0 : Int) < 2; decide), _, _, rfl, rfl, q, _, _, _, rfl, rfl, SqT.of eq, hu, ?_⟩
        refine ⟨_, rfl, p, 3, x6, y6, rfl, e6, by decide, by decide, sd6, fun r7 x7 y7 r70 r71 sd7 => ?_⟩
        have M7 : Mv H6 p (upd H6 p (lsV x7 y7)) := (Mv.start e6 sd6).draw sd7
        have nup : u ≠ p := nu.ne eu e6
        obtain ⟨nm, en, hn⟩ := atI_mem (xs := us) r70 (by rw [nu.1]; exact r71)
        obtain ⟨x, rfl, hx, hxl⟩ := nu.2 nm hn
        have eu7 : upd H6 p (lsV x7 y7) u = some (.lst us) := by rw [upd_ne nup]; exact eu
        have eT7 : upd H6 p (lsV x7 y7) t = some (.tup zs) := M7.keep _ _ (sQ _ _ eT) (ne_of (sQ _ _ eT) e6 (by intro z; cases z))
        refine ⟨u, us, r7, _, rfl, rfl, SqL.of eu7, en, ?_⟩
        generalize upd H6 p (lsV x7 y7) = H7 at M7 eu7 eT7
        refine ⟨_, rfl, _, rfl, small_len (by show 1 ≤ 100; decide), fun q8 h8 => ?_⟩
        have s8 := same_new (o := .tup [v']) h8
        refine ⟨t, q8, zs, [v'], rfl, rfl, s8 _ _ eT7, upd_same, ?_, fun q9 H9 e9 s9 => ⟨small_len (by show 3 ≤ 100; decide), fun q10 h10 => ?_⟩⟩
        · show zs.length + 1 ≤ _
          rw [sizeLine_eq]; omega
        · have s10 := same_new (o := .tup [.str wd, .str x, .ref q9]) h10
          have k79 : Same H7 (upd H9 q10 (.tup [.str wd, .str x, .ref q9])) := s8.trans (s9.trans s10)
          have k2 : Kp H2 H6 := M6.kp e2
          have k6 : Kp H6 H7 := M7.kp e6
          refine ⟨_, _, _, rfl, ((M2.trans M6).trans M7).same k79, ?_⟩
          have hvf : Tm N (upd H9 q10 (.tup [.str wd, .str x, .ref q9])) B (1 + 2 * i) (1 + 4 * i) v' := ((hv'.kp k2).kp k6).kp (Same.kp k79)
          refine Tm.app (n := 1 + 2 * i) (List.replicate zs.length 1 ++ [1 + 4 * i]) upd_same ?_ ⟨x, rfl, hxl⟩ (s10 _ _ e9) ?_ (by simp) (fun j z k' h1 h2 => ?_) (by rw [List.sum_append, sum_rep]; simp; omega)
          · rcases hc with ⟨rfl, rfl⟩ | ⟨rfl, rfl⟩
            · exact .inl ⟨rfl, hx⟩
            · exact .inr ⟨rfl, hx⟩
          · rw [List.length_append]; show zs.length + 1 ≤ 4; omega
          · by_cases hj : j < zs.length
            · rw [List.getElem?_append_left hj] at h1
              rw [List.getElem?_append_left (by simpa using hj)] at h2
              have ek : k' = 1 := (List.mem_replicate.mp (List.mem_of_getElem? h2)).2
              rw [ek]
              have hz1 := (((hz z (List.mem_of_getElem? h1)).kp (Same.kp s36)).kp k6).kp (Same.kp k79)
              exact hz1.mono (by omega) (Nat.le_refl _)
            · rw [List.getElem?_append_right (by omega)] at h1
              rw [List.getElem?_append_right (by simpa using Nat.le_of_not_lt hj)] at h2
              have ez : z = v' := by simpa using List.mem_of_getElem? h1
              have ek : k' = 1 + 4 * i := by simpa using List.mem_of_getElem? h2
              rw [ez, ek]
              exact hvf
    · rintro σ H2 ⟨v', v4, v5, rfl, M2, hv'⟩
      exact ⟨_, rfl, k _ _ hv' M2⟩
theorem scAny : FnScope ["_law_state_here", "_law_pool_here", "_law_bounds"] ["_law_state_here", "_law_pool_here", "_law_bounds"] (defScope sAny) := ⟨rfl, rfl, rfl, by decide +kernel, rfl, by decide +kernel, by decide +kernel⟩
/-- of any number below n that is drawn -/
def spGenLt (N : List V) (n : Nat) : Sp := fun vs H Q E => ∃ m, m < n ∧ spGen N m vs H Q E
theorem ok_genLt {f f1 f2 : Addr} {fd fd1 fd2 : FuncData} (D : Def K mg "_law_term" sGen genPs f fd) (T : Txt2 K mg) (D1 : Def K mg "_law_draw" sDraw ["_law_state_here", "_law_many"] f1 fd1) (D2 : Def K mg "_law_leaf" sLeaf ["_law_state_here", "_law_pool_here", "_law_bounds"] f2 fd2) (n : Nat) :
    FnOk P w K mg base CX0 (n + 3) f fd genPs (spGenLt N n) :=
  ⟨fun vs H Q E ⟨m, _, h⟩ => (ok_gen (P := P) (w := w) (base := base) D T D1 D2 m).len vs H Q E h,
    fun A outer s H args us vs Q E hr he hb hv ⟨m, hm, h⟩ => ((ok_gen (P := P) (w := w) (base := base) D T D1 D2 m).mono (by omega)).run A outer s H args us vs Q E hr he hb hv h⟩
theorem ok_any {f f1 f2 f3 f4 : Addr} {fd fd1 fd2 fd3 fd4 : FuncData} (F : Fun K "_law_any_term" "_law_any_term" sAny f fd) (T : Txt2 K mg) (D1 : Def K mg "_law_draw" sDraw ["_law_state_here", "_law_many"] f1 fd1) (D2 : Def K mg "_law_leaf" sLeaf ["_law_state_here", "_law_pool_here", "_law_bounds"] f2 fd2)
    (D3 : Def K mg "_law_term" sGen genPs f3 fd3) (D4 : Def K mg "_law_tall" sTall tallPs f4 fd4) :
    FnOk P w K mg base CX0 8 f fd ["_law_state_here", "_law_pool_here", "_law_bounds"] (spAny N) := by
  have G1 : FnOk P w K mg base CX0 1 f1 fd1 ["_law_state_here", "_law_many"] spDraw := ok_draw D1.F
  have G2 : FnOk P w K mg base CX0 2 f2 fd2 ["_law_state_here", "_law_pool_here", "_law_bounds"] (spLeaf N) := ok_leaf D2.F T D1
  have G3 : FnOk P w K mg base CX0 7 f3 fd3 genPs (spGenLt N 4) := ok_genLt D3 T D1 D2 4
  have G4 : FnOk P w K mg base CX0 3 f4 fd4 tallPs (spTall N) := ok_tall D4.F T D1 D2
  refine F.ok scAny (fun vs H Q E h => ?_) (fun cdv A outer s H vs Q E hr h => ?_)
  · obtain ⟨p, q, a, b, bd, rfl, _⟩ := h
    rfl
  · obtain ⟨p, q, a, b, bd, rfl, hp, hb, hq, bd0, bd1, k⟩ := h
    have hr1 : Room 1 _ := hr.mono (by decide)
    have hr2 : Room 2 _ := hr.mono (by decide)
    have hr3 : Room 3 _ := hr.mono (by decide)
    refine ⟨_, pss_cons (ps_if (pt_cmpR op_eq (pe_call G1 hr1 rfl D1.m D1.k D1.b .nil pass0 (pa_cons (pv 0) (pa_cons pe_int pa_nil))) pe_int (nomark _))
        (pss_one (ps_ret (pe_call G4 hr3 rfl D4.m D4.k D4.b .nil pass0 (pa_cons (pv 0) (pa_cons (pv 1) (pa_cons (pe_call G2 hr2 rfl D2.m D2.k D2.b .nil pass0 (pa_cons (pv 0) (pa_cons (pv 1) (pa_cons (pv 2) pa_nil))))
          (pa_cons (pe_call G1 hr1 rfl D1.m D1.k D1.b .nil pass0 (pa_cons (pv 0) (pa_cons pe_int pa_nil))) pa_nil))))))) pss_nil)
      (pss_one (ps_ret (pe_call G3 hr rfl D3.m D3.k D3.b .nil pass0 (pa_cons (pv 0) (pa_cons (pv 1) (pa_cons (pe_call G1 hr1 rfl D1.m D1.k D1.b .nil pass0 (pa_cons (pv 0) (pa_cons pe_int pa_nil))) (pa_cons (pv 2) pa_nil))))))), ?_⟩
    have M0 := Mv.start hp hb
    refine ⟨_, rfl, p, 6, a, b, rfl, hp, by decide, by decide, hb, fun r x1 y1 r0 r1 sd1 => ⟨rfl, _, rfl, ?_⟩⟩
    have M1 := M0.draw (a := x1) sd1
    have e1 : upd H p (lsV x1 y1) p = some (lsV x1 y1) := upd_same
    generalize upd H p (lsV x1 y1) = H1 at M1 e1
    have hq1 := hq.mv hp M1
    refine ite2 (fun _ => ?_) (fun _ => ?_)
    · refine ⟨_, rfl, _, rfl, _, rfl, _, rfl, _, rfl, p, q, x1, y1, bd, rfl, e1, sd1, hq1, bd0, bd1, fun v H2 hv M2 => ?_⟩
      obtain ⟨x2, y2, e2, sd2⟩ := M2.st
      refine ⟨_, rfl, p, 57, x2, y2, rfl, e2, by decide, by decide, sd2, fun m x3 y3 m0 m1 sd3 => ?_⟩
      have M3 : Mv H2 p (upd H2 p (lsV x3 y3)) := (Mv.start e2 sd2).draw sd3
      refine ⟨p, q, x3, y3, bd, v, m.toNat, ?_, bd0, upd_same, sd3, (hq1.mv e1 M2).mv e2 M3, hv.kp (M3.kp e2), by omega, fun v' H' hv' M' => k _ _ (hv'.mono (by omega) (by omega)) (((M1.trans M2).trans M3).trans M')⟩
      show [V.ref p, V.ref q, v, V.int m] = _
      rw [show ((m.toNat : Nat) : Int) = m by omega]
    · refine ⟨_, rfl, _, rfl, _, rfl, p, 4, x1, y1, rfl, e1, by decide, by decide, sd1, fun m x3 y3 m0 m1 sd3 => ?_⟩
      have M3 : Mv H1 p (upd H1 p (lsV x3 y3)) := (Mv.start e1 sd1).draw sd3
      refine ⟨_, rfl, m.toNat, by omega, p, q, x3, y3, bd, ?_, upd_same, sd3, hq1.mv e1 M3, bd0, bd1, fun v' H' hv' M' => k _ _ (hv'.mono (by omega) (nb_le (by omega))) ((M1.trans M3).trans M')⟩
      show [V.ref p, V.ref q, V.int m, V.int bd] = _
      rw [show ((m.toNat : Nat) : Int) = m by omega]
end
end K04
end
section
set_option Elab.async false
set_option linter.all false
set_option maxRecDepth 100000
set_option maxHeartbeats 2000000
namespace K04
open PySem L2 PyProof.Rows
/-- the sorts of words: 1 with args, 2 with two parts, 3 binding, 0 all else -/
def wq (w : Str) : Nat := if inV (.str w) argsV = true then 1 else if inV (.str w) pairV = true then 2 else if inV (.str w) bindV = true then 3 else 0
theorem wq0 {w : Str} (h : wq w = 0) : inV (.str w) argsV = false ∧ inV (.str w) pairV = false ∧ inV (.str w) bindV = false := by
  unfold wq at h
  cases h1 : inV (.str w) argsV with
  | true => rw [h1] at h; cases h
  | false =>
    rw [h1] at h
    cases h2 : inV (.str w) pairV with
    | true => rw [h2] at h; cases h
    | false =>
      rw [h2] at h
      cases h3 : inV (.str w) bindV with
      | true => rw [h3] at h; cases h
      | false => exact ⟨rfl, rfl, rfl⟩
theorem wq1 {w : Str} (h : wq w = 1) : inV (.str w) argsV = true := by
  unfold wq at h
  cases h1 : inV (.str w) argsV with
  | true => rfl
  | false =>
    rw [h1] at h
    cases h2 : inV (.str w) pairV with
    | true => rw [h2] at h; cases h
    | false =>
      rw [h2] at h
      cases h3 : inV (.str w) bindV with
      | true => rw [h3] at h; cases h
      | false => rw [h3] at h; cases h
theorem wq2 {w : Str} (h : wq w = 2) : inV (.str w) argsV = false ∧ inV (.str w) pairV = true := by
  unfold wq at h
  cases h1 : inV (.str w) argsV with
  | true => rw [h1] at h; cases h
  | false =>
    rw [h1] at h
    cases h2 : inV (.str w) pairV with
    | true => exact ⟨rfl, rfl⟩
    | false =>
      rw [h2] at h
      cases h3 : inV (.str w) bindV with
      | true => rw [h3] at h; cases h
      | false => rw [h3] at h; cases h
theorem wq3 {w : Str} (h : wq w = 3) : inV (.str w) argsV = false ∧ inV (.str w) pairV = false ∧ inV (.str w) bindV = true := by
  unfold wq at h
  cases h1 : inV (.str w) argsV with
  | true => rw [h1] at h; cases h
  | false =>
    rw [h1] at h
    cases h2 : inV (.str w) pairV with
    | true => rw [h2] at h; cases h
    | false =>
      rw [h2] at h
      cases h3 : inV (.str w) bindV with
      | true => exact ⟨rfl, rfl, rfl⟩
      | false => rw [h3] at h; cases h
/-- the parts of what has some; whether it binds -/
inductive PartsN (H : Hp) : V → List V → Bool → Prop where
  | app {a b : Addr} {w x : Str} {zs : List V} : H a = some (.tup [.str w, .str x, .ref b]) → wq w = 1 → H b = some (.tup zs) → PartsN H (.ref a) zs false
  | pair {a : Addr} {w : Str} {y z : V} : H a = some (.tup [.str w, y, z]) → wq w = 2 → PartsN H (.ref a) [y, z] false
  | bind {a : Addr} {w x : Str} {z : V} : H a = some (.tup [.str w, .str x, z]) → wq w = 3 → PartsN H (.ref a) [z] true
/-- what has none -/
def LeafN (H : Hp) (v : V) : Prop := ∃ a w r, v = .ref a ∧ H a = some (.tup (.str w :: r)) ∧ wq w = 0
def PartsX (H : Hp) (v : V) (zs : List V) (bd : Bool) : Prop := (LeafN H v ∧ zs = [] ∧ bd = false) ∨ PartsN H v zs bd
theorem PartsN.kp {H H' : Hp} {v : V} {zs : List V} {bd : Bool} (h : PartsN H v zs bd) (k : Kp H H') : PartsN H' v zs bd := by
  cases h with
  | app e hw e2 => exact .app (k.1 _ _ e) hw (k.1 _ _ e2)
  | pair e hw => exact .pair (k.1 _ _ e) hw
  | bind e hw => exact .bind (k.1 _ _ e) hw
theorem LeafN.kp {H H' : Hp} {v : V} (h : LeafN H v) (k : Kp H H') : LeafN H' v := by
  obtain ⟨a, w, r, rfl, e, hw⟩ := h
  exact ⟨a, w, r, rfl, k.1 _ _ e, hw⟩
theorem PartsX.kp {H H' : Hp} {v : V} {zs : List V} {bd : Bool} (h : PartsX H v zs bd) (k : Kp H H') : PartsX H' v zs bd := by
  rcases h with ⟨h, e⟩ | h
  · exact .inl ⟨h.kp k, e⟩
  · exact .inr (h.kp k)
theorem PartsN.uniq {H : Hp} {v : V} {zs ys : List V} {b c : Bool} (h : PartsN H v zs b) (h' : PartsN H v ys c) : zs = ys ∧ b = c := by
  cases h with
  | app e hw e2 =>
    cases h' with
    | app e' _ e2' => rw [e] at e'; cases e'; rw [e2] at e2'; cases e2'; exact ⟨rfl, rfl⟩
    | pair e' hw' => rw [e] at e'; cases e'; rw [hw] at hw'; cases hw'
    | bind e' hw' => rw [e] at e'; cases e'; rw [hw] at hw'; cases hw'
  | pair e hw =>
    cases h' with
    | app e' hw' e2' => rw [e] at e'; cases e'; rw [hw] at hw'; cases hw'
    | pair e' hw' => rw [e] at e'; cases e'; exact ⟨rfl, rfl⟩
    | bind e' hw' => rw [e] at e'; cases e'; rw [hw] at hw'; cases hw'
  | bind e hw =>
    cases h' with
    | app e' hw' e2' => rw [e] at e'; cases e'; rw [hw] at hw'; cases hw'
    | pair e' hw' => rw [e] at e'; cases e'; rw [hw] at hw'; cases hw'
    | bind e' hw' => rw [e] at e'; cases e'; exact ⟨rfl, rfl⟩
theorem LeafN.no {H : Hp} {v : V} {zs : List V} {b : Bool} (h : LeafN H v) (h' : PartsN H v zs b) : False := by
  obtain ⟨a, w, r, rfl, e, hw⟩ := h
  cases h' with
  | app e' hw' e2' => rw [e] at e'; cases e'; rw [hw] at hw'; cases hw'
  | pair e' hw' => rw [e] at e'; cases e'; rw [hw] at hw'; cases hw'
  | bind e' hw' => rw [e] at e'; cases e'; rw [hw] at hw'; cases hw'
theorem PartsX.uniq {H : Hp} {v : V} {zs ys : List V} {b c : Bool} (h : PartsX H v zs b) (h' : PartsX H v ys c) : zs = ys ∧ b = c := by
  rcases h with ⟨h, rfl, rfl⟩ | h
  · rcases h' with ⟨_, rfl, rfl⟩ | h'
    · exact ⟨rfl, rfl⟩
    · exact (h.no h').elim
  · rcases h' with ⟨h', rfl, rfl⟩ | h'
    · exact (h'.no h).elim
    · exact h.uniq h'
/-- a term or statement whose bounds reach below B beyond its own alls and somes -/
inductive IsX (N : List V) (H : Hp) : Int → V → Prop where
  | bound {B : Int} {a : Addr} {i : Int} : H a = some (.tup [.str "bound", .int i]) → 0 ≤ i → i < B → IsX N H B (.ref a)
  | free {B : Int} {a : Addr} {x : Str} : H a = some (.tup [.str "free", .str x]) → V.str x ∈ N → IsX N H B (.ref a)
  | fls {B : Int} {a : Addr} : H a = some (.tup [.str "false"]) → IsX N H B (.ref a)
  | nd {B : Int} {v : V} {zs : List V} {bd : Bool} : PartsN H v zs bd → zs.length ≤ 4 → (∀ z ∈ zs, IsX N H (B + if bd = true then 1 else 0) z) → IsX N H B v
theorem IsX.kp {N : List V} {H H' : Hp} {B : Int} {v : V} (h : IsX N H B v) (k : Kp H H') : IsX N H' B v := by
  induction h with
  | bound e h h2 => exact .bound (k.1 _ _ e) h h2
  | free e h => exact .free (k.1 _ _ e) h
  | fls e => exact .fls (k.1 _ _ e)
  | nd hp hl _ ih => exact .nd (hp.kp k) hl ih
theorem IsX.more {N : List V} {H : Hp} {B : Int} {v : V} (h : IsX N H B v) : ∀ {B' : Int}, B ≤ B' → IsX N H B' v := by
  induction h with
  | bound e h h2 => intro B' hB; exact .bound e h (by omega)
  | free e h => intro B' hB; exact .free e h
  | fls e => intro B' hB; exact .fls e
  | nd hp hl _ ih => intro B' hB; exact .nd hp hl fun z hz => ih z hz (by omega)
theorem wq_free : wq "free" = 0 := by decide +kernel
theorem wq_bound : wq "bound" = 0 := by decide +kernel
theorem wq_false : wq "false" = 0 := by decide +kernel
theorem IsX.parts {N : List V} {H : Hp} {B : Int} {v : V} (h : IsX N H B v) : ∃ zs bd, PartsX H v zs bd ∧ zs.length ≤ 4 ∧ ∀ z ∈ zs, IsX N H (B + if bd = true then 1 else 0) z := by
  cases h with
  | bound e _ _ => exact ⟨[], false, .inl ⟨⟨_, _, _, rfl, e, wq_bound⟩, rfl, rfl⟩, by decide, fun _ h => nomatch h⟩
  | free e _ => exact ⟨[], false, .inl ⟨⟨_, _, _, rfl, e, wq_free⟩, rfl, rfl⟩, by decide, fun _ h => nomatch h⟩
  | fls e => exact ⟨[], false, .inl ⟨⟨_, _, _, rfl, e, wq_false⟩, rfl, rfl⟩, by decide, fun _ h => nomatch h⟩
  | nd hp hl hz => exact ⟨_, _, .inr hp, hl, hz⟩
/-- at most m nodes; at most n deep -/
inductive Nx (H : Hp) : Nat → V → Prop where
  | mk {m : Nat} {v : V} {zs : List V} {bd : Bool} (ms : List Nat) : PartsX H v zs bd → ms.length = zs.length → (∀ (i : Nat) z k, zs[i]? = some z → ms[i]? = some k → Nx H k z) → 1 + ms.sum ≤ m → Nx H m v
inductive Dx (H : Hp) : Nat → V → Prop where
  | mk {n : Nat} {v : V} {zs : List V} {bd : Bool} : PartsX H v zs bd → (zs = [] ∨ ∃ n', n = n' + 1) → (∀ n', n = n' + 1 → ∀ z ∈ zs, Dx H n' z) → Dx H n v
theorem Nx.kp {H H' : Hp} {m : Nat} {v : V} (h : Nx H m v) (k : Kp H H') : Nx H' m v := by
  induction h with
  | mk ms hp hl _ hm ih => exact .mk ms (hp.kp k) hl ih hm
theorem Dx.kp {H H' : Hp} {n : Nat} {v : V} (h : Dx H n v) (k : Kp H H') : Dx H' n v := by
  induction h with
  | mk hp h0 _ ih => exact .mk (hp.kp k) h0 ih
theorem Nx.mono {H : Hp} {m m' : Nat} {v : V} (h : Nx H m v) (hm : m ≤ m') : Nx H m' v := by
  cases h with
  | mk ms hp hl hz h => exact .mk ms hp hl hz (by omega)
theorem Dx.mono {H : Hp} {n : Nat} {v : V} (h : Dx H n v) : ∀ {n' : Nat}, n ≤ n' → Dx H n' v := by
  induction h with
  | @mk n v zs bd hp h0 hz ih =>
    intro n' hn
    refine .mk hp ?_ fun m hm z hzm => ?_
    · rcases h0 with h0 | ⟨k, rfl⟩
      · exact .inl h0
      · exact .inr ⟨n' - 1, by omega⟩
    · rcases h0 with rfl | ⟨k, rfl⟩
      · cases hzm
      · exact ih k rfl z hzm (by omega)
theorem Nx.parts {H : Hp} {m : Nat} {v : V} {zs : List V} {bd : Bool} (h : Nx H m v) (hp : PartsX H v zs bd) : 1 ≤ m ∧ ∃ ms : List Nat, ms.length = zs.length ∧ (∀ (i : Nat) z k, zs[i]? = some z → ms[i]? = some k → Nx H k z) ∧ 1 + ms.sum ≤ m := by
  cases h with
  | mk ms hp' hl hz hm =>
    obtain ⟨rfl, rfl⟩ := hp.uniq hp'
    exact ⟨by omega, ms, hl, hz, hm⟩
theorem Dx.parts {H : Hp} {n : Nat} {v : V} {zs : List V} {bd : Bool} (h : Dx H n v) (hp : PartsX H v zs bd) : zs = [] ∨ ∃ n', n = n' + 1 ∧ ∀ z ∈ zs, Dx H n' z := by
  cases h with
  | mk hp' h0 hz =>
    obtain ⟨rfl, rfl⟩ := hp.uniq hp'
    rcases h0 with h0 | ⟨n', rfl⟩
    · exact .inl h0
    · exact .inr ⟨n', rfl, hz n' rfl⟩
theorem Nx.leaf {H : Hp} {v : V} (h : LeafN H v) : Nx H 1 v := .mk [] (.inl ⟨h, rfl, rfl⟩) rfl (fun i z k h => by simp at h) (by decide)
theorem Dx.leaf {H : Hp} {n : Nat} {v : V} (h : LeafN H v) : Dx H n v := .mk (.inl ⟨h, rfl, rfl⟩) (.inl rfl) fun _ _ _ h => nomatch h
theorem Dx.nd {H : Hp} {n : Nat} {v : V} {zs : List V} {bd : Bool} (h : PartsN H v zs bd) (hz : ∀ z ∈ zs, Dx H n z) : Dx H (n + 1) v := .mk (.inr h) (.inr ⟨n, rfl⟩) fun m hm z hzm => by
  have : m = n := by omega
  subst this
  exact hz z hzm
/-- a drawn term or statement -/
def Th (N : List V) (H : Hp) (B : Int) (n m : Nat) (v : V) : Prop := IsX N H B v ∧ Dx H n v ∧ Nx H m v
theorem Th.kp {N : List V} {H H' : Hp} {B : Int} {n m : Nat} {v : V} (h : Th N H B n m v) (k : Kp H H') : Th N H' B n m v := ⟨h.1.kp k, h.2.1.kp k, h.2.2.kp k⟩
theorem Th.mono {N : List V} {H : Hp} {B : Int} {n n' m m' : Nat} {v : V} (h : Th N H B n m v) (hn : n ≤ n') (hm : m ≤ m') : Th N H B n' m' v := ⟨h.1, h.2.1.mono hn, h.2.2.mono hm⟩
theorem Th.more {N : List V} {H : Hp} {B B' : Int} {n m : Nat} {v : V} (h : Th N H B n m v) (hB : B ≤ B') : Th N H B' n m v := ⟨h.1.more hB, h.2⟩
theorem Th.nd {N : List V} {H : Hp} {B : Int} {n m : Nat} {v : V} {zs : List V} {bd : Bool} (ms : List Nat) (h : PartsN H v zs bd) (hl : zs.length ≤ 4) (hml : ms.length = zs.length) (hz : ∀ (i : Nat) z k, zs[i]? = some z → ms[i]? = some k → Th N H (B + if bd = true then 1 else 0) n k z) (hm : 1 + ms.sum ≤ m) : Th N H B (n + 1) m v := by
  have hz' : ∀ z ∈ zs, ∃ k, Th N H (B + if bd = true then 1 else 0) n k z := fun z hzm => by
    obtain ⟨i, hi⟩ := List.getElem?_of_mem hzm
    have hlt : i < ms.length := by rw [hml]; exact (List.getElem?_eq_some_iff.mp hi).1
    exact ⟨ms[i], hz i z _ hi (by simp [hlt])⟩
  exact ⟨.nd h hl fun z hzm => (hz' z hzm).choose_spec.1, .nd h fun z hzm => (hz' z hzm).choose_spec.2.1, .mk ms (.inr h) hml (fun i z k h1 h2 => (hz i z k h1 h2).2.2) hm⟩
theorem nameS {y : V} (h : nameF y = true) : ∃ x, y = .str x := by
  cases y with
  | str x => exact ⟨x, rfl⟩
  | _ => cases h
theorem formS {y : V} (h : formF y = true) : ∃ x, y = .str x := by
  cases y with
  | str x => exact ⟨x, rfl⟩
  | _ => cases h
theorem wq_form : wq "form" = 1 := by decide +kernel
theorem wq_call : wq "call" = 1 := by decide +kernel
theorem IsT.app1 {H : Hp} {a b : Addr} {w : Str} {y : V} {zs : List V} (e : H a = some (.tup [.str w, y, .ref b])) (hw : (w = "form" ∧ formF y = true) ∨ (w = "call" ∧ nameF y = true)) (e2 : H b = some (.tup zs)) : PartsN H (.ref a) zs false := by
  rcases hw with ⟨rfl, h⟩ | ⟨rfl, h⟩
  · obtain ⟨x, rfl⟩ := formS h
    exact .app e wq_form e2
  · obtain ⟨x, rfl⟩ := nameS h
    exact .app e wq_call e2
theorem IsT.x {N : List V} {H : Hp} {B : Int} {v : V} (h : IsT N H B v) : IsX N H B v := by
  induction h with
  | free e h hN =>
    obtain ⟨x, rfl⟩ := nameS h
    exact .free e hN
  | bound e h h2 => exact .bound e h h2
  | app e hw e2 hl _ ih => exact .nd (IsT.app1 e hw e2) hl fun z hz => by simpa using ih z hz
theorem IsT.leaf {N : List V} {H : Hp} {B : Int} {v : V} (h : IsT N H B v) : LeafN H v ∨ ∃ a b w y zs, v = .ref a ∧ H a = some (.tup [.str w, y, .ref b]) ∧ ((w = "form" ∧ formF y = true) ∨ (w = "call" ∧ nameF y = true)) ∧ H b = some (.tup zs) ∧ ∀ z ∈ zs, IsT N H B z := by
  cases h with
  | free e _ _ => exact .inl ⟨_, _, _, rfl, e, wq_free⟩
  | bound e _ _ => exact .inl ⟨_, _, _, rfl, e, wq_bound⟩
  | app e hw e2 _ hz => exact .inr ⟨_, _, _, _, _, rfl, e, hw, e2, hz⟩
theorem Nd.x {N : List V} {H : Hp} {m : Nat} {v : V} (h : Nd H m v) : ∀ {B : Int}, IsT N H B v → Nx H m v := by
  induction h with
  | @leaf m a xs e hl hm =>
    intro B ht
    rcases ht.leaf with h | ⟨a', b, w, y, zs, h1, h2, _⟩
    · exact (Nx.leaf h).mono hm
    · cases h1
      rw [e] at h2; cases h2; cases hl
  | @app m a b w y zs ms e e2 hl hz hm ih =>
    intro B ht
    rcases ht.leaf with h | ⟨a', b', w', y', zs', h1, h2, h3, h4, h5⟩
    · exact (Nx.leaf h).mono (by omega)
    · cases h1
      rw [e] at h2; cases h2
      rw [e2] at h4; cases h4
      exact .mk ms (.inr (IsT.app1 e h3 e2)) hl (fun i z k g1 g2 => ih i z k g1 g2 (h5 z (List.mem_of_getElem? g1))) hm
theorem Ok.down {H : Hp} {n : Nat} {a b : Addr} {w : Str} {y : V} {zs : List V} (h : Ok 19 H (2 * n + 1) (.ref a)) (e : H a = some (.tup [.str w, y, .ref b])) (e2 : H b = some (.tup zs)) : ∃ n', n = n' + 1 ∧ ∀ z ∈ zs, Ok 19 H (2 * n' + 1) z := by
  cases h with
  | «at» h => rcases h with h | ⟨_, h⟩ | ⟨_, h⟩ | ⟨_, h, _⟩ <;> cases h
  | lst e' => rw [e] at e'; cases e'
  | dct e' => rw [e] at e'; cases e'
  | @tup _ _ xs e' _ h =>
    rw [e] at e'; cases e'
    have hb := h (.ref b) (by simp)
    generalize hk : 2 * n = k at hb
    cases hb with
    | «at» h => rcases h with h | ⟨_, h⟩ | ⟨_, h⟩ | ⟨_, h, _⟩ <;> cases h
    | lst e' => rw [e2] at e'; cases e'
    | dct e' => rw [e2] at e'; cases e'
    | @tup k' _ xs e' _ h' =>
      rw [e2] at e'; cases e'
      refine ⟨n - 1, by omega, fun z hz => ?_⟩
      have := h' z hz
      rw [show 2 * (n - 1) + 1 = k' by omega]
      exact this
theorem IsT.dx {N : List V} {H : Hp} {B : Int} {v : V} (h : IsT N H B v) : ∀ n, Ok 19 H (2 * n + 1) v → Dx H n v := by
  induction h with
  | free e _ _ => intro n _; exact .leaf ⟨_, _, _, rfl, e, wq_free⟩
  | bound e _ _ => intro n _; exact .leaf ⟨_, _, _, rfl, e, wq_bound⟩
  | app e hw e2 hl _ ih =>
    intro n hn
    obtain ⟨n', rfl, hz⟩ := hn.down e e2
    exact .nd (IsT.app1 e hw e2) fun z hzm => ih z hzm n' (hz z hzm)
theorem Tm.th {N : List V} {H : Hp} {B : Int} {n m : Nat} {v : V} (h : Tm N H B (2 * n + 1) m v) : Th N H B n m v := ⟨h.1.x, h.1.dx n h.2.1, h.2.2.x h.1⟩
def spParts : Sp := fun vs H Q _ => ∃ v zs bd, vs = [v] ∧ PartsX H v zs bd ∧ ∀ q H', Same H H' → H' q = some (.tup zs) → Q (.ref q) H'
section
variable {P : Program} {w : World} {K : PySem.W.Frag} {mg : Str → Option Value} {base : Heap}
theorem scParts : FnScope ["thing", "word"] ["thing"] (defScope sParts) := ⟨rfl, rfl, rfl, by decide +kernel, rfl, by decide +kernel, by decide +kernel⟩
theorem ok_parts {f : Addr} {fd : FuncData} (F : Fun K "parts_of" "parts_of" sParts f fd) (T : Txt2 K mg) : FnOk P w K mg base CX0 1 f fd ["thing"] spParts := by
  refine F.ok scParts (fun vs H Q E h => ?_) (fun cdv A outer s H vs Q E hr h => ?_)
  · obtain ⟨v, zs, bd, rfl, _⟩ := h
    rfl
  · obtain ⟨v, zs, bd, rfl, hp, k⟩ := h
    obtain ⟨a1, e1, h1⟩ := T.argsW
    obtain ⟨a2, e2, h2⟩ := T.pairW
    obtain ⟨a3, e3, h3⟩ := T.bindW
    refine ⟨_, pss_cons (ps_set (i := 1) scParts.nd rfl (Or.inl rfl) (pe_ix ix_tup (pv 0) pe_int (fun _ _ => rfl)))
      (pss_cons (ps_if (pt_cmpR op_in_seq (pv 1) (pe_glob (v := .ref a1) rfl e1 rfl) (by with_unfolding_all rfl)) (pss_one (ps_ret (pe_ix ix_tup (pv 0) pe_int (fun _ _ => rfl)))) pss_nil)
      (pss_cons (ps_if (pt_cmpR op_in_seq (pv 1) (pe_glob (v := .ref a2) rfl e2 rfl) (by with_unfolding_all rfl)) (pss_one (ps_ret (pe_tup (pa_cons (pe_ix ix_tup (pv 0) pe_int (fun _ _ => rfl)) (pa_cons (pe_ix ix_tup (pv 0) pe_int (fun _ _ => rfl)) pa_nil))))) pss_nil)
      (pss_cons (ps_if (pt_cmpR op_in_seq (pv 1) (pe_glob (v := .ref a3) rfl e3 rfl) (by with_unfolding_all rfl)) (pss_one (ps_ret (pe_tup (pa_cons (pe_ix ix_tup (pv 0) pe_int (fun _ _ => rfl)) pa_nil)))) pss_nil)
      (pss_one (ps_ret (pe_tup pa_nil)))))), ?_⟩
    obtain ⟨a, wd, r, rfl, e⟩ : ∃ a wd r, v = .ref a ∧ H a = some (.tup (.str wd :: r)) := by
      rcases hp with ⟨⟨a, wd, r, h, e, _⟩, _⟩ | hp
      · exact ⟨a, wd, r, h, e⟩
      · cases hp with
        | app e _ _ => exact ⟨_, _, _, rfl, e⟩
        | pair e _ => exact ⟨_, _, _, rfl, e⟩
        | bind e _ => exact ⟨_, _, _, rfl, e⟩
    have at0 : atI (V.str wd :: r) 0 = some (.str wd) := atI_nat (xs := V.str wd :: r) (j := 0) (v := .str wd) rfl
    refine ⟨_, rfl, a, _, 0, _, rfl, rfl, SqT.of e, at0, ?_⟩
    refine ⟨_, rfl, a1, argsV, rfl, .inr (h1 H), rfl, rfl, _, rfl, ?_⟩
    show if inV (.str wd) argsV = true then _ else _
    rcases hp with ⟨⟨a', wd', r', ha, e', hw⟩, rfl, rfl⟩ | hp
    · cases ha
      rw [e] at e'; cases e'
      obtain ⟨i1, i2, i3⟩ := wq0 hw
      rw [i1]
      refine iteF ⟨_, rfl, a2, pairV, rfl, .inr (h2 H), rfl, rfl, _, rfl, ?_⟩
      show if inV (.str wd) pairV = true then _ else _
      rw [i2]
      refine iteF ⟨_, rfl, a3, bindV, rfl, .inr (h3 H), rfl, rfl, _, rfl, ?_⟩
      show if inV (.str wd) bindV = true then _ else _
      rw [i3]
      exact iteF ⟨small_len (by decide), fun q hq => k q _ (same_new hq) upd_same⟩
    · cases hp with
      | @app _ b _ x zs e' hw eb =>
        rw [e] at e'; cases e'
        rw [wq1 hw]
        exact iteT ⟨_, rfl, a, _, 2, _, rfl, rfl, SqT.of e, rfl, k b H (Same.refl H) eb⟩
      | @pair _ _ y z e' hw =>
        rw [e] at e'; cases e'
        obtain ⟨i1, i2⟩ := wq2 hw
        rw [i1]
        refine iteF ⟨_, rfl, a2, pairV, rfl, .inr (h2 H), rfl, rfl, _, rfl, ?_⟩
        show if inV (.str wd) pairV = true then _ else _
        rw [i2]
        exact iteT ⟨_, rfl, a, _, 1, _, rfl, rfl, SqT.of e, rfl, _, rfl, a, _, 2, _, rfl, rfl, SqT.of e, rfl, small_len (by show 2 ≤ 100; decide), fun q hq => k q _ (same_new hq) upd_same⟩
      | @bind _ _ x z e' hw =>
        rw [e] at e'; cases e'
        obtain ⟨i1, i2, i3⟩ := wq3 hw
        rw [i1]
        refine iteF ⟨_, rfl, a2, pairV, rfl, .inr (h2 H), rfl, rfl, _, rfl, ?_⟩
        show if inV (.str wd) pairV = true then _ else _
        rw [i2]
        refine iteF ⟨_, rfl, a3, bindV, rfl, .inr (h3 H), rfl, rfl, _, rfl, ?_⟩
        show if inV (.str wd) bindV = true then _ else _
        rw [i3]
        exact iteT ⟨_, rfl, a, _, 2, _, rfl, rfl, SqT.of e, rfl, small_len (by show 1 ≤ 100; decide), fun q hq => k q _ (same_new hq) upd_same⟩
end
end K04
end
section
set_option Elab.async false
set_option linter.all false
set_option maxRecDepth 100000
set_option maxHeartbeats 2000000
namespace K04
open PySem L2 PyProof.Rows
theorem pt_imp {X : Cx} {e : Expr} {t u : TT} (h : PT X e t) (hu : ∀ σ H Q, u σ H Q → t σ H Q) : PT X e u := fun pins s σ H Q I q => h pins s σ H Q I (hu σ H Q q)
theorem ps_imp {X : Cx} {st : Stmt} {t u : TS} (h : PS X st t) (hu : ∀ D σ H, u D σ H → t D σ H) : PS X st u := fun pins s σ H D I q => h pins s σ H D I (hu D σ H q)
theorem wq_same : wq "same" = 2 := by decide +kernel
theorem wq_atom : wq "atom" = 1 := by decide +kernel
theorem Th.pair {N : List V} {H : Hp} {B : Int} {n m m1 m2 : Nat} {a : Addr} {w : Str} {y z : V} (e : H a = some (.tup [.str w, y, z])) (hw : wq w = 2) (hy : Th N H B n m1 y) (hz : Th N H B n m2 z) (hm : 1 + m1 + m2 ≤ m) : Th N H B (n + 1) m (.ref a) := by
  refine Th.nd [m1, m2] (.pair e hw) (by show 2 ≤ 4; decide) rfl (fun i u k h1 h2 => ?_) (by show 1 + (m1 + (m2 + 0)) ≤ m; omega)
  match i, h1, h2 with
  | 0, h1, h2 => cases h1; cases h2; simpa using hy
  | 1, h1, h2 => cases h1; cases h2; simpa using hz
  | i + 2, h1, h2 => cases h1
theorem Th.bind {N : List V} {H : Hp} {B : Int} {n m m1 : Nat} {a : Addr} {w x : Str} {z : V} (e : H a = some (.tup [.str w, .str x, z])) (hw : wq w = 3) (hz : Th N H (B + 1) n m1 z) (hm : 1 + m1 ≤ m) : Th N H B (n + 1) m (.ref a) := by
  refine Th.nd [m1] (.bind e hw) (by show 1 ≤ 4; decide) rfl (fun i u k h1 h2 => ?_) (by show 1 + (m1 + 0) ≤ m; omega)
  match i, h1, h2 with
  | 0, h1, h2 => cases h1; cases h2; simpa using hz
  | i + 1, h1, h2 => cases h1
theorem Th.app {N : List V} {H : Hp} {B : Int} {n m m1 : Nat} {a b : Addr} {w x : Str} {zs : List V} (e : H a = some (.tup [.str w, .str x, .ref b])) (hw : wq w = 1) (eb : H b = some (.tup zs)) (hl : zs.length ≤ 4) (hz : ∀ z ∈ zs, Th N H B n m1 z) (hm : 1 + zs.length * m1 ≤ m) : Th N H B (n + 1) m (.ref a) := by
  refine Th.nd (List.replicate zs.length m1) (.app e hw eb) hl (by simp) (fun i u k h1 h2 => ?_) (by rw [sum_rep]; exact hm)
  have ek : k = m1 := (List.mem_replicate.mp (List.mem_of_getElem? h2)).2
  rw [ek]
  simpa using hz u (List.mem_of_getElem? h1)
def tb : Nat → Nat
  | 0 => 85
  | n + 1 => 1 + 2 * tb n
theorem tb_ge : ∀ n, 85 ≤ tb n
  | 0 => Nat.le_refl _
  | n + 1 => by have := tb_ge n; show 85 ≤ 1 + 2 * tb n; omega
theorem tb_mono : ∀ {n m : Nat}, n ≤ m → tb n ≤ tb m
  | n, 0, h => by
    have : n = 0 := by omega
    subst this; exact Nat.le_refl _
  | n, m + 1, h => by
    by_cases hn : n = m + 1
    · subst hn; exact Nat.le_refl _
    · have := tb_mono (n := n) (m := m) (by omega)
      show tb n ≤ 1 + 2 * tb m; omega
def spTold (N : List V) (n : Nat) : Sp := fun vs H Q _ => ∃ (p q : Addr) (a b bd : Int), vs = [.ref p, .ref q, .int n, .int bd] ∧ H p = some (lsV a b) ∧ SeedOk b ∧ PoolOk N H q ∧ 0 ≤ bd ∧ bd + n ≤ 1000 ∧ ∀ v H', Th N H' bd (n + 3) (tb n) v → Mv H p H' → Q v H'
def spToldR (N : List V) : Nat → Sp
  | 0 => fun _ _ _ _ => False
  | n + 1 => spTold N n
def uCt (n : Nat) (sort : Int) : TT := fun σ H Q => σ[2]? = some (some (.int n)) ∧ σ[4]? = some (some (.int sort)) ∧ ∀ c, (c = false → (∃ k, n = k + 1) ∧ 3 ≤ sort) → Q c H
theorem pt_exists {X : Cx} {e : Expr} {α : Type} {t : α → TT} (h : ∀ a, PT X e (t a)) : PT X e (fun σ H Q => ∃ a, t a σ H Q) := fun pins s σ H Q I ⟨a, q⟩ => h a pins s σ H Q I q
abbrev toldPs : List Str := ["_law_state_here", "_law_pool_here", "_law_deep", "_law_bounds"]
section
variable {N : List V} {P : Program} {w : World} {K : PySem.W.Frag} {mg : Str → Option Value} {base : Heap}
theorem scTold : FnScope ["_law_state_here", "_law_pool_here", "_law_deep", "_law_bounds", "_law_sort", "_law_args", "_law_one", "_law_word"] toldPs (defScope sTold) := ⟨rfl, rfl, rfl, by decide +kernel, rfl, by decide +kernel, by decide +kernel⟩
theorem ok_told1 {n : Nat} {f f1 f2 : Addr} {fd fd1 fd2 : FuncData} (D : Def K mg "_law_told" sTold toldPs f fd) (T : Txt2 K mg) (D1 : Def K mg "_law_draw" sDraw ["_law_state_here", "_law_many"] f1 fd1) (D2 : Def K mg "_law_term" sGen genPs f2 fd2)
    (G2 : FnOk P w K mg base CX0 5 f2 fd2 genPs (spGen N 2)) (R : FnOk P w K mg base CX0 (n + 5) f fd toldPs (spToldR N n)) : FnOk P w K mg base CX0 (n + 6) f fd toldPs (spTold N n) := by
  have G1 : FnOk P w K mg base CX0 1 f1 fd1 ["_law_state_here", "_law_many"] spDraw := ok_draw D1.F
  refine D.F.ok scTold (fun vs H Q E h => ?_) (fun cdv A outer s H vs Q E hr h => ?_)
  · obtain ⟨p, q, a, b, bd, rfl, _⟩ := h
    rfl
  · obtain ⟨p, q, a, b, bd, rfl, hp, hb, hq, bd0, bd1, k⟩ := h
    have hr1 : Room 1 _ := hr.mono (by omega)
    have hr5 : Room 5 _ := hr.mono (by omega)
    refine ⟨_, pss_cons (ps_set (i := 4) scTold.nd rfl (Or.inl rfl) (pe_call G1 hr1 rfl D1.m D1.k D1.b .nil pass0 (pa_cons (pv 0) (pa_cons pe_int pa_nil))))
      (pss_cons (ps_if (pt_exists fun sort => pt_imp (u := uCt n sort) (PW.pt (pw_or (pt_cmpR op_eq (pv 2) pe_int (nomark _)) (pw_or1 (pt_cmpR op_lt (pv 4) pe_int (nomark _))))) ?cond)
        (pss_cons (ps_if (pt_cmpR op_eq (pe_op op_mod (pv 4) pe_int) pe_int (nomark _)) (pss_one (ps_ret (pe_tup (pa_cons pe_str pa_nil)))) pss_nil)
        (pss_cons (ps_if (pt_cmpR op_eq (pe_op op_mod (pv 4) pe_int) pe_int (nomark _)) (pss_one (ps_ret (pe_tup (pa_cons pe_str (pa_cons (pe_call G2 hr5 rfl D2.m D2.k D2.b .nil pass0 (pa_cons (pv 0) (pa_cons (pv 1) (pa_cons pe_int (pa_cons (pv 3) pa_nil)))))
          (pa_cons (pe_call G2 hr5 rfl D2.m D2.k D2.b .nil pass0 (pa_cons (pv 0) (pa_cons (pv 1) (pa_cons pe_int (pa_cons (pv 3) pa_nil))))) pa_nil)))))) pss_nil)
        (pss_cons (ps_set (i := 5) scTold.nd rfl (Or.inl rfl) (pe_callTy call_tuple_of (by rfl) T.tuple boot_tuple (pa_cons
          (pe_comp rfl (pi_range1 rfl T.range (pa_cons (pe_call G1 hr1 rfl D1.m D1.k D1.b .nil pass0 (pa_cons (pv 0) (pa_cons pe_int pa_nil))) pa_nil))
            (caps_of (cn := ["_law_bounds", "_law_pool_here", "_law_state_here"]) (caps := [3, 1, 0]) [(".0", .local), ("_law_k", .local), ("_law_term", .globalImplicit), ("_law_bounds", .cell), ("_law_pool_here", .cell), ("_law_state_here", .cell)] rfl (by decide +kernel) rfl (by decide +kernel) rfl (by decide +kernel) rfl rfl
              (List.forall_mem_cons.mpr ⟨rfl, List.forall_mem_cons.mpr ⟨rfl, List.forall_mem_cons.mpr ⟨rfl, fun _ h => nomatch h⟩⟩⟩)
              (by
                intro yk h
                repeat (first | (rcases List.mem_cons.mp h with h | h; · subst h; intro hk; first | exact ⟨_, rfl⟩ | (rcases hk with hk | hk <;> cases hk)) | exact absurd h (by simp)))
              (List.forall_mem_cons.mpr ⟨⟨rfl, .inr (.inl rfl), .inl rfl, .inl rfl⟩, List.forall_mem_cons.mpr ⟨⟨rfl, .inr (.inl rfl), .inl rfl, .inl rfl⟩, List.forall_mem_cons.mpr ⟨⟨rfl, .inr (.inl rfl), .inl rfl, .inl rfl⟩, fun _ h => nomatch h⟩⟩⟩))
            (fun C ex s' H' => pe_call G2 hr5 rfl D2.m D2.k D2.b .nil pass0 (pa_cons (pv 3) (pa_cons (pv 2) (pa_cons pe_int (pa_cons (pv 1) pa_nil)))))) pa_nil)))
        (pss_one (ps_ret (pe_tup (pa_cons pe_str (pa_cons (pe_ix ix_list (pe_ix ix_tup (pv 1) pe_int (fun _ _ => rfl)) (pe_call G1 hr1 rfl D1.m D1.k D1.b .nil pass0 (pa_cons (pv 0) (pa_cons pe_int pa_nil))) (fun _ _ => rfl)) (pa_cons (pv 5) pa_nil)))))))))
        pss_nil)
      (pss_cons (ps_if (pt_cmpR op_lt (pv 4) pe_int (nomark _))
        (pss_cons (ps_set (i := 6) scTold.nd rfl (Or.inl rfl) (pe_call R hr rfl D.m D.k D.b .nil pass0 (pa_cons (pv 0) (pa_cons (pv 1) (pa_cons (pe_op op_sub (pv 2) pe_int) (pa_cons (pv 3) pa_nil))))))
        (pss_one (ps_ret (pe_tup (pa_cons (pe_ix ix_list (pe_lst (pa_cons pe_str (pa_cons pe_str (pa_cons pe_str pa_nil)))) (pe_op op_sub (pv 4) pe_int) (fun _ _ => rfl)) (pa_cons (pv 6)
          (pa_cons (pe_call R hr rfl D.m D.k D.b .nil pass0 (pa_cons (pv 0) (pa_cons (pv 1) (pa_cons (pe_op op_sub (pv 2) pe_int) (pa_cons (pv 3) pa_nil))))) pa_nil)))))))
        pss_nil)
      (pss_cons (ps_set (i := 7) scTold.nd rfl (Or.inl rfl) (pe_ix ix_list (pe_lst (pa_cons pe_str (pa_cons pe_str pa_nil))) (pe_op op_mod (pv 4) pe_int) (fun _ _ => rfl)))
      (pss_one (ps_ret (pe_tup (pa_cons (pv 7) (pa_cons (pe_ix ix_list (pe_ix ix_tup (pv 1) pe_int (fun _ _ => rfl)) (pe_call G1 hr1 rfl D1.m D1.k D1.b .nil pass0 (pa_cons (pv 0) (pa_cons pe_int pa_nil))) (fun _ _ => rfl))
        (pa_cons (pe_call R hr rfl D.m D.k D.b .nil pass0 (pa_cons (pv 0) (pa_cons (pv 1) (pa_cons (pe_op op_sub (pv 2) pe_int) (pa_cons (pe_op op_add (pv 3) pe_int) pa_nil))))) pa_nil))))))))), ?_⟩
    case cond =>
      rintro σ H Q ⟨h2, h4, k⟩
      refine ⟨_, h2, rfl, _, rfl, ?_⟩
      cases n with
      | zero => exact iteT (k true (fun h => by cases h))
      | succ n =>
        have h0 : decide (V.int (((n + 1 : Nat)) : Int) = V.int 0) = false := decide_eq_false (by intro h; injection h with h; omega)
        rw [h0]
        refine iteF ⟨_, h4, _, _, rfl, rfl, _, rfl, k _ fun h => ⟨⟨n, rfl⟩, ?_⟩⟩
        have := of_decide_eq_false h
        omega
    have M0 := Mv.start hp hb
    refine ⟨_, rfl, p, 9, a, b, rfl, hp, by decide, by decide, hb, fun sort x1 y1 r0 r1 sd1 => ?_⟩
    have M1 := M0.draw (a := x1) sd1
    have e1 : upd H p (lsV x1 y1) p = some (lsV x1 y1) := upd_same
    generalize upd H p (lsV x1 y1) = H1 at M1 e1
    have hq1 := hq.mv hp M1
    obtain ⟨qa, qb, qc, us, vs', ws, eq, ea, eb, ec, na, nb, nc⟩ := hq1.ex
    refine ⟨sort, rfl, rfl, fun c hc => ?_⟩
    cases c with
    | true =>
      refine iteT ⟨_, rfl, _, _, rfl, rfl, (by show (0 : Int) < 3; decide), rfl, _, rfl, ?_⟩
      refine ite2 (fun _ => ?_) (fun _ => ?_)
      · exact ⟨small_len (by show 1 ≤ 100; decide), fun q2 hq2 => k _ _ ⟨.fls upd_same, .leaf ⟨_, _, _, rfl, upd_same, wq_false⟩, (Nx.leaf ⟨_, _, _, rfl, upd_same, wq_false⟩).mono (by have := tb_ge n; omega)⟩ (M1.new hq2)⟩
      · refine ⟨_, rfl, _, _, rfl, rfl, (by show (0 : Int) < 3; decide), rfl, _, rfl, ?_⟩
        refine ite2 (fun _ => ?_) (fun _ => ?_)
        · refine ⟨_, rfl, _, rfl, _, rfl, p, q, x1, y1, bd, rfl, e1, sd1, hq1, bd0, by omega, fun t H2 ht M2 => ?_⟩
          obtain ⟨x2, y2, e2, sd2⟩ := M2.st
          refine ⟨_, rfl, _, rfl, _, rfl, p, q, x2, y2, bd, rfl, e2, sd2, hq1.mv e1 M2, bd0, by omega, fun u H3 hu M3 => ⟨small_len (by show 3 ≤ 100; decide), fun q4 hq4 => ?_⟩⟩
          have ht3 := (ht.kp (M3.kp e2)).kp (Same.kp (same_new (o := .tup [.str "same", t, u]) hq4))
          have hu3 := hu.kp (Same.kp (same_new (o := .tup [.str "same", t, u]) hq4))
          exact k _ _ ((Th.pair (m := 85) upd_same wq_same (Tm.th (n := 2) ht3) (Tm.th (n := 2) hu3) (by decide)).mono (by omega) (tb_ge n)) (((M1.trans M2).trans M3).new hq4)
        · refine ⟨_, rfl, p, 5, x1, y1, rfl, e1, by decide, by decide, sd1, fun r x2 y2 r20 r21 sd2 => ?_⟩
          have M2 : Mv H1 p (upd H1 p (lsV x2 y2)) := (Mv.start e1 sd1).draw sd2
          refine ⟨r, rfl, by omega, by omega, r.toNat, fun i zs H' => i ≤ r.toNat ∧ Mv H1 p H' ∧ zs.length = i ∧ ∀ z ∈ zs, Tm N H' bd 5 (nbd 2) z, by rw [sizeLine_eq]; omega, ⟨Nat.zero_le _, M2, rfl, fun _ h => nomatch h⟩, ?_⟩
          rintro i zs H2 ⟨hi, M3, hl, hz⟩
          obtain ⟨x3, y3, e3, sd3⟩ := M3.st
          have hq3 := hq1.mv e1 M3
          by_cases hlt : i < r.toNat
          · refine .inr ⟨hlt, hlt, ?_⟩
            rintro x H3 ⟨rfl, rfl⟩
            refine ⟨_, rfl, _, rfl, _, rfl, p, q, x3, y3, bd, rfl, e3, sd3, hq3, bd0, by omega, fun v H4 hv M4 => ⟨hlt, M3.trans M4, by rw [List.length_append, hl]; rfl, fun z hm => ?_⟩⟩
            rcases List.mem_append.mp hm with hm | hm
            · exact (hz z hm).kp (M4.kp e3)
            · rw [List.mem_singleton.mp hm]; exact hv
          · refine .inl ⟨Nat.le_of_not_lt hlt, fun D' hD => ?_⟩
            have M4 := M3.new (o := .lst zs) hD
            have eL : upd H2 D' (.lst zs) D' = some (.lst zs) := upd_same
            have sL := same_new (o := .lst zs) hD
            generalize upd H2 D' (.lst zs) = H4 at M4 eL sL
            refine ⟨D', zs, rfl, .inl ⟨SqL.of eL, fun t ht => ?_⟩⟩
            have M5 := M4.new (o := .tup zs) ht
            have eT : upd H4 t (.tup zs) t = some (.tup zs) := upd_same
            have sT := same_new (o := .tup zs) ht
            generalize upd H4 t (.tup zs) = H5 at M5 eT sT
            have hz5 : ∀ z ∈ zs, Tm N H5 bd 5 (nbd 2) z := fun z hm => (hz z hm).kp (Same.kp (sL.trans sT))
            have hq5 := hq1.mv e1 M5
            obtain ⟨qa, qb, qc, us, vs', ws, eq, ea, eb, ec, na, nb, nc⟩ := hq5.ex
            obtain ⟨x5, y5, e5, sd5⟩ := M5.st
            refine ⟨_, rfl, q, _, 2, _, rfl, rfl, SqT.of eq, rfl, _, rfl, p, 3, x5, y5, rfl, e5, by decide, by decide, sd5, fun r x6 y6 r60 r61 sd6 => ?_⟩
            obtain ⟨nm, en, hn⟩ := atI_mem (xs := ws) r60 (by rw [nc.1]; exact r61)
            have nwp : qc ≠ p := nc.ne ec e5
            have ntp : t ≠ p := ne_of eT e5 (by intro z; cases z)
            have M6 : Mv H5 p (upd H5 p (lsV x6 y6)) := (Mv.start e5 sd5).draw sd6
            refine ⟨qc, ws, r, nm, rfl, rfl, SqL.of (by rw [upd_ne nwp]; exact ec), en, _, rfl, small_len (by show 3 ≤ 100; decide), fun q8 h8 => ?_⟩
            have s8 := same_new (o := .tup [.str "atom", nm, .ref t]) h8
            have k5 : Kp H5 (upd (upd H5 p (lsV x6 y6)) q8 (.tup [.str "atom", nm, .ref t])) := (M6.new h8).kp e5
            obtain ⟨xn, rfl, _, _⟩ := nc.2 nm hn
            have et8 := k5.1 _ _ eT
            exact k _ _ ((Th.app (m := 85) (m1 := 21) upd_same wq_atom et8 (by omega) (fun z hm => Tm.th (n := 2) ((hz5 z hm).kp k5)) (by have : zs.length * 21 ≤ 4 * 21 := Nat.mul_le_mul_right _ (by omega); omega)).mono (by omega) (tb_ge n)) ((M1.trans (M5.trans M6)).new h8)
    | false =>
      obtain ⟨⟨n, rfl⟩, hs3⟩ := hc rfl
      have en : V.int (((n + 1 : Nat) : Int) - 1) = V.int (n : Int) := by rw [show ((n + 1 : Nat) : Int) - 1 = (n : Int) by omega]
      refine iteF ⟨_, rfl, _, _, rfl, rfl, _, rfl, ?_⟩
      refine ite2 (fun h6 => ?_) (fun _ => ?_)
      · have hs6 : sort < 6 := of_decide_eq_true h6
        refine ⟨_, rfl, _, rfl, _, rfl, _, _, rfl, rfl, _, rfl, p, q, x1, y1, bd, ?_, e1, sd1, hq1, bd0, by omega, fun v1 H2 hv1 M2 => ?_⟩
        · show [V.ref p, V.ref q, V.int (((n + 1 : Nat) : Int) - 1), V.int bd] = _
          rw [en]
        obtain ⟨x2, y2, e2, sd2⟩ := M2.st
        refine ⟨small_len (by show 3 ≤ 100; decide), fun ql hql => ?_⟩
        have sQ := same_new (o := .lst [V.str "and", .str "or", .str "if"]) hql
        have eQ : upd H2 ql (.lst [V.str "and", .str "or", .str "if"]) ql = some (.lst [V.str "and", .str "or", .str "if"]) := upd_same
        generalize upd H2 ql (.lst [V.str "and", .str "or", .str "if"]) = H3 at sQ eQ
        obtain ⟨wd, ew, hw, hwl⟩ : ∃ wd : Str, atI [V.str "and", .str "or", .str "if"] (sort - 3) = some (.str wd) ∧ wq wd = 2 ∧ wd.length ≤ 19 := by
          have : sort = 3 ∨ sort = 4 ∨ sort = 5 := by omega
          rcases this with rfl | rfl | rfl
          · exact ⟨"and", rfl, by decide +kernel, by decide +kernel⟩
          · exact ⟨"or", rfl, by decide +kernel, by decide +kernel⟩
          · exact ⟨"if", rfl, by decide +kernel, by decide +kernel⟩
        refine ⟨_, rfl, _, _, rfl, rfl, ql, _, _, _, rfl, rfl, SqL.of eQ, ew, _, rfl, ?_⟩
        have hv3 := hv1.kp (Same.kp sQ)
        have e3 := sQ _ _ e2
        refine ⟨_, rfl, _, rfl, _, rfl, _, _, rfl, rfl, _, rfl, p, q, x2, y2, bd, ?_, e3, sd2, hq1.mv e1 (M2.same sQ), bd0, by omega, fun v2 H4 hv2 M4 => ⟨small_len (by show 3 ≤ 100; decide), fun q5 hq5 => ?_⟩⟩
        · show [V.ref p, V.ref q, V.int (((n + 1 : Nat) : Int) - 1), V.int bd] = _
          rw [en]
        have s5 := same_new (o := .tup [.str wd, v1, v2]) hq5
        have a1 := (hv3.kp (M4.kp e3)).kp (Same.kp s5)
        have a2 := hv2.kp (Same.kp s5)
        exact k _ _ ((Th.pair (m := tb (n + 1)) upd_same hw a1 a2 (by show 1 + tb n + tb n ≤ 1 + 2 * tb n; omega)).mono (by omega) (Nat.le_refl _)) (((M1.trans (M2.same sQ)).trans M4).new hq5)
      · refine ⟨small_len (by show 2 ≤ 100; decide), fun ql hql => ?_⟩
        have sQ := same_new (o := .lst [V.str "all", .str "some"]) hql
        have eQ : upd H1 ql (.lst [V.str "all", .str "some"]) ql = some (.lst [V.str "all", .str "some"]) := upd_same
        generalize upd H1 ql (.lst [V.str "all", .str "some"]) = H3 at sQ eQ
        obtain ⟨wd, ew, hw, hwl⟩ : ∃ wd : Str, atI [V.str "all", .str "some"] (sort % 2) = some (.str wd) ∧ wq wd = 3 ∧ wd.length ≤ 19 := by
          have : sort % 2 = 0 ∨ sort % 2 = 1 := by omega
          rcases this with h | h <;> rw [h]
          · exact ⟨"all", rfl, by decide +kernel, by decide +kernel⟩
          · exact ⟨"some", rfl, by decide +kernel, by decide +kernel⟩
        refine ⟨_, rfl, _, _, rfl, rfl, (by show (0 : Int) < 2; decide), ql, _, _, _, rfl, rfl, SqL.of eQ, ew, ?_⟩
        have e3 := sQ _ _ e1
        have M3 : Mv H1 p H3 := (Mv.start e1 sd1).same sQ
        have eq3 := sQ _ _ eq
        have ec3 := sQ _ _ ec
        refine ⟨_, rfl, _, rfl, q, _, 2, _, rfl, rfl, SqT.of eq3, rfl, _, rfl, p, 3, x1, y1, rfl, e3, by decide, by decide, sd1, fun r x6 y6 r60 r61 sd6 => ?_⟩
        obtain ⟨nm, en', hn⟩ := atI_mem (xs := ws) r60 (by rw [nc.1]; exact r61)
        have nwp : qc ≠ p := nc.ne ec3 e3
        have M6 : Mv H3 p (upd H3 p (lsV x6 y6)) := (Mv.start e3 sd1).draw sd6
        have ep6 : upd H3 p (lsV x6 y6) p = some (lsV x6 y6) := upd_same
        refine ⟨qc, ws, r, nm, rfl, rfl, SqL.of (by rw [upd_ne nwp]; exact ec3), en', ?_⟩
        generalize upd H3 p (lsV x6 y6) = H6 at M6 ep6
        refine ⟨_, rfl, _, rfl, _, rfl, _, _, rfl, rfl, _, rfl, _, _, rfl, rfl, p, q, x6, y6, bd + 1, ?_, ep6, sd6, hq1.mv e1 (M3.trans M6), by omega, by omega, fun v2 H7 hv2 M7 => ⟨small_len (by show 3 ≤ 100; decide), fun q8 hq8 => ?_⟩⟩
        · show [V.ref p, V.ref q, V.int (((n + 1 : Nat) : Int) - 1), V.int (bd + 1)] = _
          rw [en]
        have s8 := same_new (o := .tup [.str wd, nm, v2]) hq8
        have a2 := hv2.kp (Same.kp s8)
        obtain ⟨xn, rfl, _, _⟩ := nc.2 nm hn
        exact k _ _ ((Th.bind (m := tb (n + 1)) upd_same hw a2 (by show 1 + tb n ≤ 1 + 2 * tb n; omega)).mono (by omega) (Nat.le_refl _)) ((M1.trans ((M3.trans M6).trans M7)).new hq8)
end
def spToldLt (N : List V) (n : Nat) : Sp := fun vs H Q E => ∃ m, m < n ∧ spTold N m vs H Q E
def spAnyT (N : List V) : Sp := fun vs H Q _ => ∃ (p q : Addr) (a b : Int) (d bd : Int), vs = [.ref p, .ref q, .int d, .int bd] ∧ H p = some (lsV a b) ∧ SeedOk b ∧ PoolOk N H q ∧ 0 ≤ d ∧ d < 5 ∧ 0 ≤ bd ∧ bd ≤ 100 ∧ ∀ v H', Th N H' bd 27 1400 v → Mv H p H' → Q v H'
def uIf (p : Addr) : TS := fun D σ H => ∃ a b s1 s2 s3 s5 s6, σ = [some (.ref p), s1, s2, s3, some (.int 0), s5, s6] ∧ H p = some (lsV a b) ∧ SeedOk b ∧ ∀ (m : Int) H', 0 ≤ m → m < 21 → Mv H p H' → D.nx [some (.ref p), s1, s2, s3, some (.int m), s5, s6] H'
section
variable {N : List V} {P : Program} {w : World} {K : PySem.W.Frag} {mg : Str → Option Value} {base : Heap}
theorem ok_told {f f1 f2 f3 : Addr} {fd fd1 fd2 fd3 : FuncData} (D : Def K mg "_law_told" sTold toldPs f fd) (T : Txt2 K mg) (D1 : Def K mg "_law_draw" sDraw ["_law_state_here", "_law_many"] f1 fd1) (D2 : Def K mg "_law_term" sGen genPs f2 fd2) (D3 : Def K mg "_law_leaf" sLeaf ["_law_state_here", "_law_pool_here", "_law_bounds"] f3 fd3) :
    ∀ n : Nat, FnOk P w K mg base CX0 (n + 6) f fd toldPs (spTold N n)
  | 0 => ok_told1 D T D1 D2 (ok_gen D2 T D1 D3 2) ⟨fun _ _ _ _ h => h.elim, fun _ _ _ _ _ _ _ _ _ _ _ _ _ h => h.elim⟩
  | n + 1 => ok_told1 D T D1 D2 (ok_gen D2 T D1 D3 2) (ok_told D T D1 D2 D3 n)
theorem ok_toldLt {f f1 f2 f3 : Addr} {fd fd1 fd2 fd3 : FuncData} (D : Def K mg "_law_told" sTold toldPs f fd) (T : Txt2 K mg) (D1 : Def K mg "_law_draw" sDraw ["_law_state_here", "_law_many"] f1 fd1) (D2 : Def K mg "_law_term" sGen genPs f2 fd2) (D3 : Def K mg "_law_leaf" sLeaf ["_law_state_here", "_law_pool_here", "_law_bounds"] f3 fd3) :
    FnOk P w K mg base CX0 10 f fd toldPs (spToldLt N 5) :=
  ⟨fun vs H Q E ⟨m, _, h⟩ => (ok_told (P := P) (w := w) (base := base) D T D1 D2 D3 m).len vs H Q E h,
    fun A outer s H args us vs Q E hr he hb hv ⟨m, hm, h⟩ => ((ok_told (P := P) (w := w) (base := base) D T D1 D2 D3 m).mono (by omega)).run A outer s H args us vs Q E hr he hb hv h⟩
theorem scAnyT : FnScope ["_law_state_here", "_law_pool_here", "_law_deep", "_law_bounds", "_law_many", "_law_told_here", "_law_k"] toldPs (defScope sAnyT) := ⟨rfl, rfl, rfl, by decide +kernel, rfl, by decide +kernel, by decide +kernel⟩
theorem ok_anyT {f f1 f2 : Addr} {fd fd1 fd2 : FuncData} (F : Fun K "_law_any_told" "_law_any_told" sAnyT f fd) (T : Txt2 K mg) (D1 : Def K mg "_law_draw" sDraw ["_law_state_here", "_law_many"] f1 fd1) (D2 : Def K mg "_law_told" sTold toldPs f2 fd2) (G2 : FnOk P w K mg base CX0 10 f2 fd2 toldPs (spToldLt N 5)) :
    FnOk P w K mg base CX0 11 f fd toldPs (spAnyT N) := by
  have G1 : FnOk P w K mg base CX0 1 f1 fd1 ["_law_state_here", "_law_many"] spDraw := ok_draw D1.F
  refine F.ok scAnyT (fun vs H Q E h => ?_) (fun cdv A outer s H vs Q E hr h => ?_)
  · obtain ⟨p, q, a, b, d, bd, rfl, _⟩ := h
    rfl
  · obtain ⟨p, q, a, b, d, bd, rfl, hp, hb, hq, d0, d5, bd0, bd1, k⟩ := h
    have hr1 : Room 1 _ := hr.mono (by decide)
    refine ⟨_, pss_cons (ps_set (i := 4) scAnyT.nd rfl (Or.inl rfl) pe_int)
      (pss_cons (ps_imp (u := uIf p) (ps_if (pt_cmpR op_eq (pe_call G1 hr1 rfl D1.m D1.k D1.b .nil pass0 (pa_cons (pv 0) (pa_cons pe_int pa_nil))) pe_int (nomark _))
        (pss_one (ps_set (i := 4) scAnyT.nd rfl (Or.inl rfl) (pe_call G1 hr1 rfl D1.m D1.k D1.b .nil pass0 (pa_cons (pv 0) (pa_cons pe_int pa_nil))))) pss_nil) ?mid)
      (pss_cons (ps_set (i := 5) scAnyT.nd rfl (Or.inl rfl) (pe_call G2 hr rfl D2.m D2.k D2.b .nil pass0 (pa_cons (pv 0) (pa_cons (pv 1) (pa_cons (pv 2) (pa_cons (pe_op op_add (pv 3) (pv 4)) pa_nil))))))
      (pss_cons (ps_for PassesOwn.never rfl (pi_range1 rfl T.range (pa_cons (pv 4) pa_nil)) (pg_name (i := 6) scAnyT.nd rfl (Or.inl rfl))
        (pss_one (ps_set (i := 5) scAnyT.nd rfl (Or.inl rfl) (pe_tup (pa_cons (pe_ix ix_list (pe_lst (pa_cons pe_str (pa_cons pe_str pa_nil))) (pe_call G1 hr1 rfl D1.m D1.k D1.b .nil pass0 (pa_cons (pv 0) (pa_cons pe_int pa_nil))) (fun _ _ => rfl))
          (pa_cons (pe_ix ix_list (pe_ix ix_tup (pv 1) pe_int (fun _ _ => rfl)) (pe_op op_mod (pv 6) pe_int) (fun _ _ => rfl)) (pa_cons (pv 5) pa_nil)))))))
      (pss_one (ps_ret (pv 5)))))), ?_⟩
    case mid =>
      rintro D σ H ⟨a, b, s1, s2, s3, s5, s6, rfl, hp, hb, k⟩
      have M0 := Mv.start hp hb
      refine ⟨_, rfl, p, 6, a, b, rfl, hp, by decide, by decide, hb, fun r x1 y1 r0 r1 sd1 => ⟨rfl, _, rfl, ?_⟩⟩
      have M1 := M0.draw (a := x1) sd1
      have e1 : upd H p (lsV x1 y1) p = some (lsV x1 y1) := upd_same
      generalize upd H p (lsV x1 y1) = H1 at M1 e1
      refine ite2 (fun _ => ?_) (fun _ => ?_)
      · exact ⟨_, rfl, p, 21, x1, y1, rfl, e1, by decide, by decide, sd1, fun m x2 y2 m0 m1 sd2 => k m _ m0 m1 (M1.trans ((Mv.start e1 sd1).draw sd2))⟩
      · exact k 0 _ (by decide) (by decide) M1
    refine ⟨a, b, _, _, _, _, _, rfl, hp, hb, fun m H1 m0 m1 M1 => ?_⟩
    obtain ⟨x1, y1, e1, sd1⟩ := M1.st
    have hq1 := hq.mv hp M1
    refine ⟨_, rfl, _, rfl, _, rfl, _, rfl, _, rfl, _, _, rfl, rfl, d.toNat, by omega, p, q, x1, y1, bd + m, ?_, e1, sd1, hq1, by omega, by omega, fun v H2 hv M2 => ?_⟩
    · show [V.ref p, V.ref q, V.int d, V.int (bd + m)] = _
      rw [show ((d.toNat : Nat) : Int) = d by omega]
    have hv2 : Th N H2 (bd + m) 7 (tb 4) v := hv.mono (by omega) (tb_mono (by omega))
    have M12 := M1.trans M2
    refine ⟨_, rfl, m, rfl, by omega, by omega, for_range (n := m.toNat) (fun i σ H3 => ∃ v v6, σ = [some (.ref p), some (.ref q), some (.int d), some (.int bd), some (.int m), some v, v6] ∧ Mv H p H3 ∧ Th N H3 (bd + m - i) (7 + i) (tb 4 + i) v) ⟨v, _, rfl, M12, by simpa using hv2⟩ ?_ ?_⟩
    · rintro i σ H3 hi ⟨v, v6, rfl, M3, hv3⟩
      obtain ⟨x3, y3, e3, sd3⟩ := M3.st
      refine ⟨small_len (by show 2 ≤ 100; decide), fun ql hql => ?_⟩
      have sQ := same_new (o := .lst [V.str "all", .str "some"]) hql
      have eQ : upd H3 ql (.lst [V.str "all", .str "some"]) ql = some (.lst [V.str "all", .str "some"]) := upd_same
      have nq : ql ≠ p := fun z => by subst z; rw [hql] at e3; cases e3
      generalize upd H3 ql (.lst [V.str "all", .str "some"]) = H4 at sQ eQ
      have e4 := sQ _ _ e3
      refine ⟨_, rfl, p, 2, x3, y3, rfl, e4, by decide, by decide, sd3, fun r x5 y5 r0 r1 sd5 => ?_⟩
      have M5 : Mv H4 p (upd H4 p (lsV x5 y5)) := (Mv.start e4 sd3).draw sd5
      obtain ⟨wd, ew, hw, hwl⟩ : ∃ wd : Str, atI [V.str "all", .str "some"] r = some (.str wd) ∧ wq wd = 3 ∧ wd.length ≤ 19 := by
        have : r = 0 ∨ r = 1 := by omega
        rcases this with rfl | rfl
        · exact ⟨"all", rfl, by decide +kernel, by decide +kernel⟩
        · exact ⟨"some", rfl, by decide +kernel, by decide +kernel⟩
      have hq5 := hq.mv hp ((M3.same sQ).trans M5)
      obtain ⟨qa, qb, qc, us, vs', ws, eq, ea, eb, ec, na, nb, nc⟩ := hq5.ex
      refine ⟨ql, _, r, _, rfl, rfl, SqL.of (by rw [upd_ne nq]; exact eQ), ew, ?_⟩
      have hv5 := (hv3.kp (Same.kp sQ)).kp (M5.kp e4)
      generalize upd H4 p (lsV x5 y5) = H5 at M5 eq ea eb ec hv5
      obtain ⟨nm, en, hn⟩ := atI_mem (xs := ws) (q := (0 + (i : Int)) % 3) (by omega) (by rw [nc.1]; omega)
      refine ⟨_, rfl, q, _, 2, _, rfl, rfl, SqT.of eq, rfl, _, rfl, _, _, rfl, rfl, (by show (0 : Int) < 3; decide), qc, ws, _, nm, rfl, rfl, SqL.of ec, en, _, rfl, small_len (by show 3 ≤ 100; decide), fun q8 hq8 => ?_⟩
      have s8 := same_new (o := .tup [.str wd, nm, v]) hq8
      have a2 := hv5.kp (Same.kp s8)
      obtain ⟨xn, rfl, _, _⟩ := nc.2 nm hn
      refine ⟨_, _, rfl, (((M3.same sQ).trans M5)).new hq8, Th.bind (n := 7 + i) (m1 := tb 4 + i) upd_same hw ?_ (by omega)⟩
      rw [show bd + m - ((i + 1 : Nat) : Int) + 1 = bd + m - (i : Int) by omega]
      exact a2
    · rintro σ H3 ⟨v, v6, rfl, M3, hv3⟩
      have t4 : tb 4 = 1375 := by decide
      exact ⟨_, rfl, k _ _ ((hv3.more (by omega)).mono (by omega) (by omega)) M3⟩
end
end K04
end
section
set_option Elab.async false
set_option linter.all false
set_option maxRecDepth 100000
set_option maxHeartbeats 4000000
namespace K04
open PySem L2 PyProof.Rows
theorem in_args_w {w : Str} (h : inV (.str w) argsV = true) : w = "form" ∨ w = "call" ∨ w = "atom" := by
  unfold inV argsV at h
  simp [eqV] at h
  rcases h with h | h | h
  · exact .inl h.symm
  · exact .inr (.inl h.symm)
  · exact .inr (.inr h.symm)
theorem in_pair_w {w : Str} (h : inV (.str w) pairV = true) : w = "same" ∨ w = "and" ∨ w = "or" ∨ w = "if" := by
  unfold inV pairV at h
  simp [eqV] at h
  rcases h with h | h | h | h
  · exact .inl h.symm
  · exact .inr (.inl h.symm)
  · exact .inr (.inr (.inl h.symm))
  · exact .inr (.inr (.inr h.symm))
theorem in_bind_w {w : Str} (h : inV (.str w) bindV = true) : w = "all" ∨ w = "some" := by
  unfold inV bindV at h
  simp [eqV] at h
  rcases h with h | h
  · exact .inl h.symm
  · exact .inr h.symm
/-- just c nodes -/
inductive Cn (H : Hp) : Nat → V → Prop where
  | mk {v : V} {zs : List V} {bd : Bool} (ms : List Nat) : PartsX H v zs bd → ms.length = zs.length → (∀ (i : Nat) z k, zs[i]? = some z → ms[i]? = some k → Cn H k z) → Cn H (1 + ms.sum) v
theorem Cn.kp {H H' : Hp} {c : Nat} {v : V} (h : Cn H c v) (k : Kp H H') : Cn H' c v := by
  induction h with
  | mk ms hp hl _ ih => exact .mk ms (hp.kp k) hl ih
theorem Cn.pos {H : Hp} {c : Nat} {v : V} (h : Cn H c v) : 1 ≤ c := by
  cases h with
  | mk ms => omega
theorem Cn.parts {H : Hp} {c : Nat} {v : V} {zs : List V} {bd : Bool} (h : Cn H c v) (hp : PartsX H v zs bd) : ∃ ms : List Nat, c = 1 + ms.sum ∧ ms.length = zs.length ∧ ∀ (i : Nat) z k, zs[i]? = some z → ms[i]? = some k → Cn H k z := by
  cases h with
  | mk ms hp' hl hz =>
    obtain ⟨rfl, rfl⟩ := hp.uniq hp'
    exact ⟨ms, rfl, hl, hz⟩
theorem pickC {H : Hp} : ∀ {zs : List V} {ms : List Nat}, ms.length = zs.length → (∀ (i : Nat) z k, zs[i]? = some z → ms[i]? = some k → ∃ c, c ≤ k ∧ Cn H c z) → ∃ cs : List Nat, cs.length = zs.length ∧ cs.sum ≤ ms.sum ∧ ∀ (i : Nat) z k, zs[i]? = some z → cs[i]? = some k → Cn H k z
  | [], [], _, _ => ⟨[], rfl, Nat.le_refl _, fun i z k h => by simp at h⟩
  | z :: zs, m :: ms, hl, h => by
    obtain ⟨c, hc, h0⟩ := h 0 z m rfl rfl
    obtain ⟨cs, h1, h2, h3⟩ := pickC (zs := zs) (ms := ms) (by simpa using hl) fun i y k a b => h (i + 1) y k (by simpa using a) (by simpa using b)
    refine ⟨c :: cs, by simp [h1], by rw [List.sum_cons, List.sum_cons]; omega, fun i y k a b => ?_⟩
    cases i with
    | zero => cases a; cases b; exact h0
    | succ i => exact h3 i y k (by simpa using a) (by simpa using b)
theorem Nx.cn {H : Hp} {m : Nat} {v : V} (h : Nx H m v) : ∃ c, c ≤ m ∧ Cn H c v := by
  induction h with
  | @mk m v zs bd ms hp hl _ hm ih =>
    obtain ⟨cs, h1, h2, h3⟩ := pickC hl ih
    exact ⟨1 + cs.sum, by omega, .mk cs hp h1 h3⟩
/-- x is free there -/
inductive Fre (H : Hp) (x : Str) : V → Prop where
  | here {a : Addr} : H a = some (.tup [.str "free", .str x]) → Fre H x (.ref a)
  | part {v z : V} {zs : List V} {bd : Bool} : PartsN H v zs bd → z ∈ zs → Fre H x z → Fre H x v
theorem Fre.kp {H H' : Hp} {x : Str} {v : V} (h : Fre H x v) (k : Kp H H') : Fre H' x v := by
  induction h with
  | here e => exact .here (k.1 _ _ e)
  | part hp hz _ ih => exact .part (hp.kp k) hz ih
theorem Fre.nd {H : Hp} {x : Str} {v : V} {zs : List V} {bd : Bool} (hp : PartsN H v zs bd) : Fre H x v ↔ ∃ z ∈ zs, Fre H x z := by
  constructor
  · intro h
    cases h with
    | here e => exact (LeafN.no ⟨_, _, _, rfl, e, wq_free⟩ hp).elim
    | part hp' hz h =>
      obtain ⟨rfl, rfl⟩ := hp.uniq hp'
      exact ⟨_, hz, h⟩
  · rintro ⟨z, hz, h⟩
    exact .part hp hz h
theorem Fre.leaf {H : Hp} {x : Str} {a : Addr} {wd : Str} {r : List V} (e : H a = some (.tup (.str wd :: r))) (hw : wq wd = 0) : Fre H x (.ref a) ↔ V.str wd :: r = [.str "free", .str x] := by
  constructor
  · intro h
    cases h with
    | here e' => rw [e] at e'; cases e'; rfl
    | part hp hz h => exact (LeafN.no ⟨_, _, _, rfl, e, hw⟩ hp).elim
  · intro h
    rw [h] at e
    exact .here e
theorem Fre.inN {N : List V} {H : Hp} {B : Int} {x : Str} {v : V} (h : IsX N H B v) (hf : Fre H x v) : V.str x ∈ N := by
  induction h with
  | bound e _ _ =>
    have := (Fre.leaf e wq_bound).mp hf
    simp at this
  | @free B a y e hN =>
    have := (Fre.leaf e wq_free).mp hf
    simp at this
    rw [← this]
    exact hN
  | fls e =>
    have := (Fre.leaf e wq_false).mp hf
    simp at this
  | nd hp _ _ ih =>
    obtain ⟨z, hz, h⟩ := (Fre.nd hp).mp hf
    exact ih z hz h
/-- what is still to be walked -/
inductive Pnd (N : List V) (H : Hp) : Nat → List V → Prop where
  | nil : Pnd N H 0 []
  | cons {n c : Nat} {x : V} {cs : List V} : (∃ B, IsX N H B x) → Cn H c x → Pnd N H n cs → Pnd N H (n + c) (x :: cs)
theorem Pnd.len {N : List V} {H : Hp} {n : Nat} {cs : List V} (h : Pnd N H n cs) : cs.length ≤ n := by
  induction h with
  | nil => exact Nat.le_refl _
  | cons _ hc _ ih =>
    have := hc.pos
    rw [List.length_cons]
    omega
theorem Pnd.push {N : List V} {H : Hp} : ∀ {zs : List V} {ms : List Nat} {n : Nat} {cs : List V}, Pnd N H n cs → ms.length = zs.length → (∀ z ∈ zs, ∃ B, IsX N H B z) → (∀ (i : Nat) z k, zs[i]? = some z → ms[i]? = some k → Cn H k z) → Pnd N H (n + ms.sum) (zs.reverse ++ cs)
  | [], [], n, cs, h, _, _, _ => by simpa using h
  | z :: zs, m :: ms, n, cs, h, hl, hz, hc => by
    have h1 : Pnd N H (n + m) (z :: cs) := .cons (hz z (by simp)) (hc 0 z m rfl rfl) h
    have h2 := Pnd.push (zs := zs) (ms := ms) h1 (by simpa using hl) (fun y hy => hz y (List.mem_cons_of_mem _ hy)) fun i y k a b => hc (i + 1) y k (by simpa using a) (by simpa using b)
    have e : n + m + ms.sum = n + (m :: ms).sum := by rw [List.sum_cons]; omega
    rw [e] at h2
    simpa using h2
theorem kp_upd2 {H : Hp} {q : Addr} {xs ys : List V} (e : H q = some (.lst xs)) : Kp H (upd H q (.lst ys)) := by
  refine ⟨fun a zs h => by rw [upd_ne (ne_of h e (by intro z; cases z))]; exact h, fun a zs h => ?_, fun a kvs h => ⟨kvs, by rw [upd_ne (ne_of h e (by intro z; cases z))]; exact h⟩⟩
  by_cases ha : a = q
  · subst ha; exact ⟨_, upd_same⟩
  · exact ⟨_, by rw [upd_ne ha]; exact h⟩
def spNodes (N : List V) : Sp := fun vs H Q _ => ∃ v c B, vs = [v] ∧ IsX N H B v ∧ Cn H c v ∧ c ≤ 2000 ∧ ∀ H', Same H H' → Q (.int (c : Nat)) H'
section
variable {N : List V} {P : Program} {w : World} {K : PySem.W.Frag} {mg : Str → Option Value} {base : Heap}
theorem scNodes : FnScope ["thing", "many", "pending", "part"] ["thing"] (defScope sNodes) := ⟨rfl, rfl, rfl, by decide +kernel, rfl, by decide +kernel, by decide +kernel⟩
theorem ok_nodes {f f1 : Addr} {fd fd1 : FuncData} (F : Fun K "nodes" "nodes" sNodes f fd) (T : Txt2 K mg) (D1 : Def K mg "parts_of" sParts ["thing"] f1 fd1) : FnOk P w K mg base CX0 2 f fd ["thing"] (spNodes N) := by
  have G1 : FnOk P w K mg base CX0 1 f1 fd1 ["thing"] spParts := ok_parts D1.F T
  refine F.ok scNodes (fun vs H Q E h => ?_) (fun cdv A outer s H vs Q E hr h => ?_)
  · obtain ⟨v, c, B, rfl, _⟩ := h
    rfl
  · obtain ⟨v, c, B, rfl, hv, hc, hc2, k⟩ := h
    refine ⟨_, pss_cons (ps_set (i := 1) scNodes.nd rfl (Or.inl rfl) (pe_int))
      (pss_cons (ps_set (i := 2) scNodes.nd rfl (Or.inl rfl) (pe_lst (pa_cons (pv 0) (pa_nil))))
      (pss_cons (ps_while PassesOwn.never (pt_truth (pv 2) (fun _ => rfl)) (pss_cons (ps_set (i := 3) scNodes.nd rfl (Or.inl rfl) (pe_bm0 PySem.F.plainAttrs_list PySem.F.slot_list_pop PySem.F.type_list_pop mt_pop (pv 2)))
      (pss_cons (ps_aug (i := 1) scNodes.nd rfl (Or.inl rfl) (pe_int) iop_add)
      (pss_one (ps_expr (pe_bm PySem.F.plainAttrs_list PySem.F.slot_list_extend PySem.F.type_list_extend mt_extendT (pv 2) (pa_cons (pe_call G1 hr rfl D1.m D1.k D1.b .nil pass0 (pa_cons (pv 3) (pa_nil))) (pa_nil))))))))
      (pss_one (ps_ret (pv 1))))), ?_⟩
    refine ⟨_, rfl, small_len (by show 1 ≤ 100; decide), fun q hq => ?_⟩
    have s1 := same_new (o := .lst [v]) hq
    have eq1 : upd H q (.lst [v]) q = some (.lst [v]) := upd_same
    generalize upd H q (.lst [v]) = H1 at s1 eq1 ⊢
    refine ⟨fun n σ H4 => ∃ cs v3, n ≤ c ∧ σ = [some v, some (.int ((c - n : Nat) : Int)), some (.ref q), v3] ∧ H4 q = some (.lst cs.reverse) ∧ Same H H4 ∧ Pnd N H n cs,
      ⟨c, [v], none, Nat.le_refl _, by rw [Nat.sub_self]; rfl, eq1, s1, by simpa using Pnd.cons ⟨B, hv⟩ hc .nil⟩, ?_⟩
    rintro n σ H4 ⟨cs, v3, hnc, rfl, eq4, s4, pd⟩
    refine ⟨_, rfl, _, .inl ⟨_, SqL.of eq4, rfl⟩, ?_⟩
    cases pd with
    | nil => exact iteF ⟨_, rfl, by rw [Nat.sub_zero]; exact k H4 s4⟩
    | @cons n c' x cs hx hcx pd =>
      have hne : (!(x :: cs).reverse.isEmpty) = true := by simp
      rw [hne]
      refine iteT ⟨fun σ' H' => ∃ m', m' < n + c' ∧ ∃ cs v3, m' ≤ c ∧ σ' = [some v, some (.int ((c - m' : Nat) : Int)), some (.ref q), v3] ∧ H' q = some (.lst cs.reverse) ∧ Same H H' ∧ Pnd N H m' cs, fun σ' H' h => h, ?_⟩
      refine ⟨_, rfl, .inl ⟨rfl, _, SqL.of eq4⟩, q, (x :: cs).reverse, x, rfl, rfl, eq4, by rw [List.reverse_cons]; simp, ?_⟩
      have edl : (x :: cs).reverse.dropLast = cs.reverse := by rw [List.reverse_cons]; simp
      rw [edl]
      have s5 : Same H (upd H4 q (.lst cs.reverse)) := fun b o e => by rw [upd_ne (ne_of_none e hq)]; exact s4 b o e
      have eq5 : upd H4 q (.lst cs.reverse) q = some (.lst cs.reverse) := upd_same
      generalize upd H4 q (.lst cs.reverse) = H5 at s5 eq5
      refine ⟨_, rfl, _, _, rfl, rfl, ?_⟩
      obtain ⟨Bx, hx⟩ := hx
      obtain ⟨zs, bd, hpz, hl4, hzs⟩ := hx.parts
      refine ⟨_, rfl, .inl ⟨rfl, _, SqL.of eq5⟩, _, rfl, x, zs, bd, rfl, hpz.kp (Same.kp s5), fun qz H6 s6 ez => ?_⟩
      obtain ⟨ms, rfl, hml, hmc⟩ := hcx.parts hpz
      have hpl := pd.len
      refine ⟨q, qz, cs.reverse, zs, rfl, rfl, s6 _ _ eq5, ez, by rw [List.length_reverse, sizeLine_eq]; omega, ?_⟩
      refine ⟨n + ms.sum, by omega, zs.reverse ++ cs, some x, by omega, ?_, ?_, fun b o e => ?_, pd.push hml (fun z hz => ⟨_, hzs z hz⟩) hmc⟩
      · have e : ((c - (n + (1 + ms.sum)) : Nat) : Int) + 1 = ((c - (n + ms.sum) : Nat) : Int) := by omega
        show [some v, some (V.int (((c - (n + (1 + ms.sum)) : Nat) : Int) + 1)), some (.ref q), some x] = _
        rw [e]
      · rw [upd_same]; simp
      · rw [upd_ne (ne_of_none e hq)]; exact s6 _ _ (s5 b o e)
end
theorem PartsN.noFree {H : Hp} {v : V} {zs : List V} {bd : Bool} (h : PartsN H v zs bd) : ∃ a wd r, v = .ref a ∧ H a = some (.tup (.str wd :: r)) ∧ wd ≠ "free" := by
  cases h with
  | app e hw _ => exact ⟨_, _, _, rfl, e, fun h => by subst h; rw [wq_free] at hw; cases hw⟩
  | pair e hw => exact ⟨_, _, _, rfl, e, fun h => by subst h; rw [wq_free] at hw; cases hw⟩
  | bind e hw => exact ⟨_, _, _, rfl, e, fun h => by subst h; rw [wq_free] at hw; cases hw⟩
theorem IsX.there {N : List V} {H : Hp} {B : Int} {v : V} (h : IsX N H B v) : ∃ a o, v = .ref a ∧ H a = some o := by
  cases h with
  | bound e _ _ => exact ⟨_, _, rfl, e⟩
  | free e _ => exact ⟨_, _, rfl, e⟩
  | fls e => exact ⟨_, _, rfl, e⟩
  | nd hp _ _ =>
    obtain ⟨a, wd, r, rfl, e, _⟩ := hp.noFree
    exact ⟨_, _, rfl, e⟩
/-- free there: it is itself one, or in a part -/
theorem IsX.fre {N : List V} {H : Hp} {B : Int} {v : V} {zs : List V} {bd : Bool} (h : IsX N H B v) (hp : PartsX H v zs bd) (y : Str) : Fre H y v ↔ (∃ a, v = .ref a ∧ H a = some (.tup [.str "free", .str y])) ∨ ∃ z ∈ zs, Fre H y z := by
  rcases hp with ⟨⟨a, wd, r, rfl, e, hw⟩, rfl, rfl⟩ | hp
  · rw [Fre.leaf e hw]
    constructor
    · intro h
      exact .inl ⟨a, rfl, by rw [e, h]⟩
    · rintro (⟨b, eb, h⟩ | ⟨z, hz, _⟩)
      · cases eb
        rw [e] at h
        cases h
        rfl
      · cases hz
  · rw [Fre.nd hp]
    refine ⟨.inr, fun h => h.elim ?_ id⟩
    rintro ⟨a, rfl, e⟩
    exact (LeafN.no ⟨_, _, _, rfl, e, wq_free⟩ hp).elim
theorem pe_imp {X : Cx} {e : Expr} {t u : TE} (h : PE X e t) (hu : ∀ σ H Q, u σ H Q → t σ H Q) : PE X e u := fun pins s σ H Q I q => h pins s σ H Q I (hu σ H Q q)
def uSet (w : World) : TE := fun σ H Q => ∀ p, H p = none → Q (.ref p) (upd H p (SetO w p []))
/-- the name is put into the set where it is a free one's -/
def uFre (w : World) (N : List V) : TS := fun D σ H => ∃ v p q x L B, σ = [some v, some (.ref p), some (.ref q), some x] ∧ IsX N H B x ∧ H p = some (SetO w p L) ∧ L.length < 4000 ∧ ∀ H' L', H' p = some (SetO w p L') → (∀ b o, b ≠ p → H b = some o → H' b = some o) → (L.Nodup → L'.Nodup) →
  (L' = L ∨ ∃ y, V.str y ∈ N ∧ y ∉ L ∧ L' = L ++ [y]) → (∀ y, y ∈ L' ↔ y ∈ L ∨ ∃ a, x = .ref a ∧ H a = some (.tup [.str "free", .str y])) → D.nx σ H'
def spFreeIn (N : List V) : Sp := fun vs H Q _ => ∃ v c B, vs = [v] ∧ IsX N H B v ∧ Cn H c v ∧ c ≤ 2000 ∧ N.length < 64 ∧ ∀ q ss H', Same H H' → H q = none → H' q = some (.lst (ss.map V.str)) → TXS.Srt ss → ss.Nodup → (∀ y, y ∈ ss ↔ Fre H y v) → Q (.ref q) H'
theorem len_le : ∀ {L : List Str} {N : List V}, L.Nodup → (∀ y ∈ L, V.str y ∈ N) → L.length ≤ N.length
  | [], _, _, _ => Nat.zero_le _
  | y :: L, N, hn, h => by
    obtain ⟨h1, h2⟩ := List.nodup_cons.mp hn
    have hy := h y (by simp)
    have := len_le (L := L) (N := N.erase (.str y)) h2 fun z hz => by
      have hne : V.str z ≠ V.str y := fun e => by
        injection e with e
        subst e
        exact h1 hz
      exact (List.mem_erase_of_ne hne).mpr (h z (List.mem_cons_of_mem _ hz))
    rw [List.length_erase_of_mem hy] at this
    have hp : 0 < N.length := List.length_pos_of_mem hy
    rw [List.length_cons]
    omega
section
variable {N : List V} {P : Program} {w : World} {K : PySem.W.Frag} {mg : Str → Option Value} {base : Heap}
theorem scFree : FnScope ["thing", "names", "pending", "part"] ["thing"] (defScope sFreeIn) := ⟨rfl, rfl, rfl, by decide +kernel, rfl, by decide +kernel, by decide +kernel⟩
theorem ok_free {f f1 : Addr} {fd fd1 : FuncData} (F : Fun K "free_in" "free_in" sFreeIn f fd) (T : Txt2 K mg) (D1 : Def K mg "parts_of" sParts ["thing"] f1 fd1) : FnOk P w K mg base CX0 2 f fd ["thing"] (spFreeIn N) := by
  have G1 : FnOk P w K mg base CX0 1 f1 fd1 ["thing"] spParts := ok_parts D1.F T
  refine F.ok scFree (fun vs H Q E h => ?_) (fun cdv A outer s H vs Q E hr h => ?_)
  · obtain ⟨v, c, B, rfl, _⟩ := h
    rfl
  · obtain ⟨v, c, B, rfl, hv, hc, hc2, hN, k⟩ := h
    refine ⟨_, pss_cons (ps_set (i := 1) scFree.nd rfl (Or.inl rfl) (pe_imp (u := uSet w) (pe_callTy0 call_set0 (by rfl) T.set L2.boot_set) (fun _ _ _ q => ⟨rfl, q⟩)))
      (pss_cons (ps_set (i := 2) scFree.nd rfl (Or.inl rfl) (pe_lst (pa_cons (pv 0) (pa_nil))))
      (pss_cons (ps_while PassesOwn.never (pt_truth (pv 2) (fun _ => rfl)) (pss_cons (ps_set (i := 3) scFree.nd rfl (Or.inl rfl) (pe_bm0 PySem.F.plainAttrs_list PySem.F.slot_list_pop PySem.F.type_list_pop mt_pop (pv 2)))
      (pss_cons (ps_imp (u := uFre w N) (ps_if (pt_cmpR op_eq (pe_ix ix_tup (pv 3) (pe_int) (fun _ _ => rfl)) (pe_str) (nomark _)) (pss_one (ps_expr (pe_addS (pv 1) (pa_cons (pe_ix ix_tup (pv 3) (pe_int) (fun _ _ => rfl)) (pa_nil))))) (pss_nil)) ?fre)
      (pss_one (ps_expr (pe_bm PySem.F.plainAttrs_list PySem.F.slot_list_extend PySem.F.type_list_extend mt_extendT (pv 2) (pa_cons (pe_call G1 hr rfl D1.m D1.k D1.b .nil pass0 (pa_cons (pv 3) (pa_nil))) (pa_nil))))))))
      (pss_one (ps_ret (pe_callB (call_sortS rfl) (by rfl) T.sorted L2.boot_sorted (pa_cons (pv 1) (pa_nil))))))), ?_⟩
    case fre =>
      rintro D2 σ H2 ⟨v, p, q, x, L, B, rfl, hx, hp, hL, k2⟩
      have keep : ∀ H', H' = H2 → ∀ b o, b ≠ p → H2 b = some o → H' b = some o := fun H' e b o _ h => by rw [e]; exact h
      cases hx with
      | @bound _ a i e _ _ =>
        refine ⟨_, rfl, a, _, 0, _, rfl, rfl, SqT.of e, rfl, rfl, _, rfl, ?_⟩
        show if decide (V.str "bound" = V.str "free") = true then _ else _
        rw [show decide (V.str "bound" = V.str "free") = false by decide +kernel]
        refine iteF (k2 H2 L hp (keep _ rfl) id (.inl rfl) fun y => ⟨.inl, fun h => h.elim id ?_⟩)
        rintro ⟨b, eb, e2⟩
        cases eb
        rw [e] at e2
        simp at e2
      | @free _ a y e hy =>
        refine ⟨_, rfl, a, _, 0, _, rfl, rfl, SqT.of e, rfl, rfl, _, rfl, ?_⟩
        show if decide (V.str "free" = V.str "free") = true then _ else _
        rw [show decide (V.str "free" = V.str "free") = true by decide +kernel]
        refine iteT ⟨_, rfl, p, L, rfl, hp, _, rfl, a, _, 1, _, rfl, rfl, SqT.of e, rfl, y, L, rfl, hp, by omega, ?_⟩
        refine k2 _ _ upd_same (fun b o hb h => by rw [upd_ne hb]; exact h) (fun hn => ?_) ?_ fun z => ?_
        · split
          · exact hn
          · rename_i hny
            rw [List.nodup_append]
            refine ⟨hn, by simp, fun u hu z hz => ?_⟩
            rw [List.mem_singleton.mp hz]
            rintro rfl
            exact hny hu
        · by_cases hny : y ∈ L
          · rw [if_pos hny]; exact .inl rfl
          · rw [if_neg hny]; exact .inr ⟨y, hy, hny, rfl⟩
        · have e2 : ∀ b, (V.ref a = .ref b ∧ H2 b = some (.tup [.str "free", .str z])) → z = y := by
            rintro b ⟨eb, h⟩
            cases eb
            rw [e] at h
            simp at h
            exact h.symm
          split
          · rename_i hny
            exact ⟨.inl, fun h => h.elim id fun ⟨b, hb⟩ => by rw [e2 b hb]; exact hny⟩
          · rw [List.mem_append, List.mem_singleton]
            exact ⟨fun h => h.elim .inl fun h => .inr ⟨a, rfl, by rw [h]; exact e⟩, fun h => h.elim .inl fun ⟨b, hb⟩ => .inr (e2 b hb)⟩
      | @fls _ a e =>
        refine ⟨_, rfl, a, _, 0, _, rfl, rfl, SqT.of e, rfl, rfl, _, rfl, ?_⟩
        show if decide (V.str "false" = V.str "free") = true then _ else _
        rw [show decide (V.str "false" = V.str "free") = false by decide +kernel]
        refine iteF (k2 H2 L hp (keep _ rfl) id (.inl rfl) fun y => ⟨.inl, fun h => h.elim id ?_⟩)
        rintro ⟨b, eb, e2⟩
        cases eb
        rw [e] at e2
        simp at e2
      | @nd _ _ zs bd hpn _ _ =>
        obtain ⟨a, wd, r, rfl, e, hwf⟩ := hpn.noFree
        have at0 : atI (V.str wd :: r) 0 = some (.str wd) := atI_nat (xs := V.str wd :: r) (j := 0) (v := .str wd) rfl
        refine ⟨_, rfl, a, _, 0, _, rfl, rfl, SqT.of e, at0, rfl, _, rfl, ?_⟩
        show if decide (V.str wd = V.str "free") = true then _ else _
        rw [decide_eq_false (fun h => hwf (by injection h))]
        refine iteF (k2 H2 L hp (keep _ rfl) id (.inl rfl) fun y => ⟨.inl, fun h => h.elim id ?_⟩)
        rintro ⟨b, eb, e2⟩
        cases eb
        rw [e] at e2
        simp at e2
        exact absurd e2.1 hwf
    refine (fun p hp => ⟨_, rfl, small_len (by show 1 ≤ 100; decide), fun q hq => ?_⟩)
    have hpq : p ≠ q := fun z => by subst z; rw [upd_same] at hq; cases hq
    have hqH : H q = none := by rw [upd_ne (Ne.symm hpq)] at hq; exact hq
    have s1 : Same H (upd (upd H p (SetO w p [])) q (.lst [v])) := (same_new hp).trans (same_new hq)
    have eq1 : upd (upd H p (SetO w p [])) q (.lst [v]) q = some (.lst [v]) := upd_same
    have ep1 : upd (upd H p (SetO w p [])) q (.lst [v]) p = some (SetO w p []) := by rw [upd_ne hpq]; exact upd_same
    generalize upd (upd H p (SetO w p [])) q (.lst [v]) = H1 at s1 eq1 ep1 ⊢
    refine ⟨fun n σ H4 => ∃ cs L v3, n ≤ c ∧ σ = [some v, some (.ref p), some (.ref q), v3] ∧ H4 q = some (.lst cs.reverse) ∧ H4 p = some (SetO w p L) ∧ Same H H4 ∧ Pnd N H n cs ∧ L.Nodup ∧ (∀ y ∈ L, V.str y ∈ N) ∧ ∀ y, Fre H y v ↔ y ∈ L ∨ ∃ z ∈ cs, Fre H y z,
      ⟨c, [v], [], none, Nat.le_refl _, rfl, eq1, ep1, s1, by simpa using Pnd.cons ⟨B, hv⟩ hc .nil, by simp, by simp, by simp⟩, ?_⟩
    rintro n σ H4 ⟨cs, L, v3, hnc, rfl, eq4, ep4, s4, pd, hnd, hLN, hF⟩
    have hLl := len_le hnd hLN
    refine ⟨_, rfl, _, .inl ⟨_, SqL.of eq4, rfl⟩, ?_⟩
    cases pd with
    | nil =>
      refine iteF ⟨_, rfl, p, L, rfl, ep4, by omega, fun r ss hr5 hpm hs => ?_⟩
      refine k r ss _ (s4.trans (same_new hr5)) ?_ upd_same hs (hpm.nodup_iff.mpr hnd) fun y => ?_
      · cases e : H r with
        | none => rfl
        | some o => have := s4 _ _ e; rw [hr5] at this; cases this
      · rw [hpm.mem_iff, hF y]
        simp
    | @cons n c' x cs hx hcx pd =>
      have hne : (!(x :: cs).reverse.isEmpty) = true := by simp
      rw [hne]
      refine iteT ⟨fun σ' H' => ∃ m', m' < n + c' ∧ ∃ cs L v3, m' ≤ c ∧ σ' = [some v, some (.ref p), some (.ref q), v3] ∧ H' q = some (.lst cs.reverse) ∧ H' p = some (SetO w p L) ∧ Same H H' ∧ Pnd N H m' cs ∧ L.Nodup ∧ (∀ y ∈ L, V.str y ∈ N) ∧ ∀ y, Fre H y v ↔ y ∈ L ∨ ∃ z ∈ cs, Fre H y z, fun σ' H' h => h, ?_⟩
      refine ⟨_, rfl, .inl ⟨rfl, _, SqL.of eq4⟩, q, (x :: cs).reverse, x, rfl, rfl, eq4, by rw [List.reverse_cons]; simp, ?_⟩
      have edl : (x :: cs).reverse.dropLast = cs.reverse := by rw [List.reverse_cons]; simp
      rw [edl]
      have s5 : Same H (upd H4 q (.lst cs.reverse)) := fun b o e => by rw [upd_ne (ne_of_none e hqH)]; exact s4 b o e
      have eq5 : upd H4 q (.lst cs.reverse) q = some (.lst cs.reverse) := upd_same
      have ep5 : upd H4 q (.lst cs.reverse) p = some (SetO w p L) := by rw [upd_ne hpq]; exact ep4
      generalize upd H4 q (.lst cs.reverse) = H5 at s5 eq5 ep5
      obtain ⟨Bx, hx⟩ := hx
      refine ⟨v, p, q, x, L, Bx, rfl, hx.kp (Same.kp s5), ep5, by omega, fun H6 L6 ep6 kp6 hnd6 hL6 hm6 => ?_⟩
      have s6 : Same H H6 := fun b o e => kp6 b o (ne_of_none e hp) (s5 b o e)
      have eq6 := kp6 q _ (Ne.symm hpq) eq5
      obtain ⟨zs, bd, hpz, hl4, hzs⟩ := hx.parts
      refine ⟨_, rfl, .inl ⟨rfl, _, SqL.of eq6⟩, _, rfl, x, zs, bd, rfl, hpz.kp (Same.kp s6), fun qz H7 s7 ez => ?_⟩
      obtain ⟨ms, rfl, hml, hmc⟩ := hcx.parts hpz
      have hpl := pd.len
      refine ⟨q, qz, cs.reverse, zs, rfl, rfl, s7 _ _ eq6, ez, by rw [List.length_reverse, sizeLine_eq]; omega, ?_⟩
      refine ⟨n + ms.sum, by omega, zs.reverse ++ cs, L6, some x, by omega, rfl, ?_, ?_, fun b o e => ?_, pd.push hml (fun z hz => ⟨_, hzs z hz⟩) hmc, hnd6 hnd, fun y hy => ?_, fun y => ?_⟩
      · rw [upd_same]; simp
      · rw [upd_ne hpq]; exact s7 _ _ ep6
      · rw [upd_ne (ne_of_none e hqH)]; exact s7 _ _ (s6 b o e)
      · rcases hL6 with rfl | ⟨u, hu, _, rfl⟩
        · exact hLN y hy
        · rcases List.mem_append.mp hy with hy | hy
          · exact hLN y hy
          · rw [List.mem_singleton.mp hy]; exact hu
      · rw [hF y, hm6 y]
        have back : ∀ a, H5 a = some (.tup [.str "free", .str y]) → x = .ref a → H a = some (.tup [.str "free", .str y]) := by
          rintro a e rfl
          obtain ⟨b, o, eb, ho⟩ := hx.there
          cases eb
          have := s5 _ _ ho
          rw [e] at this
          cases this
          exact ho
        constructor
        · rintro (h | ⟨z, hz, h⟩)
          · exact .inl (.inl h)
          · rcases List.mem_cons.mp hz with rfl | hz
            · rcases (hx.fre hpz y).mp h with ⟨a, ea, e⟩ | ⟨u, hu, h⟩
              · exact .inl (.inr ⟨a, ea, s5 _ _ e⟩)
              · exact .inr ⟨u, List.mem_append_left _ (List.mem_reverse.mpr hu), h⟩
            · exact .inr ⟨z, List.mem_append_right _ hz, h⟩
        · rintro ((h | ⟨a, ea, e⟩) | ⟨z, hz, h⟩)
          · exact .inl h
          · exact .inr ⟨x, by simp, (hx.fre hpz y).mpr (.inl ⟨a, ea, back a e ea⟩)⟩
          · rcases List.mem_append.mp hz with hz | hz
            · exact .inr ⟨x, by simp, (hx.fre hpz y).mpr (.inr ⟨z, List.mem_reverse.mp hz, h⟩)⟩
            · exact .inr ⟨z, by simp [hz], h⟩
end
end K04
end
section
set_option Elab.async false
set_option linter.all false
set_option maxRecDepth 100000
set_option maxHeartbeats 4000000
namespace K04
open PySem L2 PyProof.Rows
/-- the word is among these -/
def uIn (ts : List Str) : TT := fun σ H Q => ∃ a wd r, σ[0]? = some (some (.ref a)) ∧ H a = some (.tup (.str wd :: r)) ∧ ∀ H', Same H H' → Q (inV (.str wd) (ts.map V.str)) H'
theorem cutFrom {xs : List V} {k : Nat} (h : k ≤ xs.length) : cutV xs (some (k : Int)) none = xs.drop k := by
  unfold cutV
  have h1 : HT.sIx xs.length 0 (some (k : Int)) = k := by
    have := HT.sIx_nat xs.length 0 k
    rw [this]; omega
  rw [h1, HT.sIx_none, List.take_of_length_le (by rw [List.length_drop]; exact Nat.le_refl _)]
def spInner (N : List V) : Sp := fun vs H Q _ => ∃ v zs bd B, vs = [v] ∧ IsX N H B v ∧ PartsX H v zs bd ∧ ∀ q H', Same H H' → H' q = some (.tup zs) → Q (.ref q) H'
section
variable {N : List V} {P : Program} {w : World} {K : PySem.W.Frag} {mg : Str → Option Value} {base : Heap}
theorem scInner : FnScope ["_law_thing"] ["_law_thing"] (defScope sInner) := ⟨rfl, rfl, rfl, by decide +kernel, rfl, by decide +kernel, by decide +kernel⟩
theorem ok_inner {f : Addr} {fd : FuncData} (F : Fun K "_law_inner" "_law_inner" sInner f fd) : FnOk P w K mg base CX0 1 f fd ["_law_thing"] (spInner N) := by
  refine F.ok scInner (fun vs H Q E h => ?_) (fun cdv A outer s H vs Q E hr h => ?_)
  · obtain ⟨v, zs, bd, B, rfl, _⟩ := h
    rfl
  · obtain ⟨v, zs, bd, B, rfl, hv, hpz, k⟩ := h
    refine ⟨_, pss_cons (ps_if (pt_imp (u := uIn ["free", "bound", "false"]) (pt_cmpR op_in_seq (pe_ix ix_tup (pv 0) (pe_int) (fun _ _ => rfl)) (pe_tup (pa_strs _ ["free", "bound", "false"] rfl)) (by with_unfolding_all rfl)) ?w1) (pss_one (ps_ret (pe_tup (pa_nil)))) (pss_nil))
      (pss_cons (ps_if (pt_imp (u := uIn ["form", "call", "atom"]) (pt_cmpR op_in_seq (pe_ix ix_tup (pv 0) (pe_int) (fun _ _ => rfl)) (pe_tup (pa_strs _ ["form", "call", "atom"] rfl)) (by with_unfolding_all rfl)) ?w2) (pss_one (ps_ret (pe_ix ix_tup (pv 0) (pe_int) (fun _ _ => rfl)))) (pss_nil))
      (pss_cons (ps_if (pt_imp (u := uIn ["all", "some"]) (pt_cmpR op_in_seq (pe_ix ix_tup (pv 0) (pe_int) (fun _ _ => rfl)) (pe_tup (pa_strs _ ["all", "some"] rfl)) (by with_unfolding_all rfl)) ?w3) (pss_one (ps_ret (pe_slice sl_tupA (pv 0) (po_some pe_int) po_none))) (pss_nil))
      (pss_one (ps_ret (pe_slice sl_tupA (pv 0) (po_some pe_int) po_none))))), ?_⟩
    case w1 =>
      rintro σ H2 Q2 ⟨a, wd, r, h0, e, q⟩
      have at0 : atI (V.str wd :: r) 0 = some (.str wd) := atI_nat (xs := V.str wd :: r) (j := 0) (v := .str wd) rfl
      exact ⟨_, h0, a, _, 0, _, rfl, rfl, SqT.of e, at0, small_len (by show 3 ≤ 100; decide), fun q3 hq3 => ⟨q3, _, rfl, .inr (SqT.of upd_same), rfl, rfl, _, rfl, q _ (same_new hq3)⟩⟩
    case w2 =>
      rintro σ H2 Q2 ⟨a, wd, r, h0, e, q⟩
      have at0 : atI (V.str wd :: r) 0 = some (.str wd) := atI_nat (xs := V.str wd :: r) (j := 0) (v := .str wd) rfl
      exact ⟨_, h0, a, _, 0, _, rfl, rfl, SqT.of e, at0, small_len (by show 3 ≤ 100; decide), fun q3 hq3 => ⟨q3, _, rfl, .inr (SqT.of upd_same), rfl, rfl, _, rfl, q _ (same_new hq3)⟩⟩
    case w3 =>
      rintro σ H2 Q2 ⟨a, wd, r, h0, e, q⟩
      have at0 : atI (V.str wd :: r) 0 = some (.str wd) := atI_nat (xs := V.str wd :: r) (j := 0) (v := .str wd) rfl
      exact ⟨_, h0, a, _, 0, _, rfl, rfl, SqT.of e, at0, small_len (by show 2 ≤ 100; decide), fun q3 hq3 => ⟨q3, _, rfl, .inr (SqT.of upd_same), rfl, rfl, _, rfl, q _ (same_new hq3)⟩⟩
    have leaf : ∀ {a : Addr} {wd : Str} {r : List V}, v = .ref a → H a = some (.tup (.str wd :: r)) → wq wd = 0 → zs = [] := fun {a wd r} hv e hw => by
      subst hv
      rcases hpz with ⟨_, h, _⟩ | h
      · exact h
      · exact (LeafN.no ⟨_, _, _, rfl, e, hw⟩ h).elim
    cases hv with
    | @bound _ a i e _ _ =>
      cases leaf rfl e wq_bound
      refine ⟨a, _, _, rfl, e, fun H3 s3 => ?_⟩
      rw [show inV (.str "bound") ((["free", "bound", "false"] : List Str).map V.str) = true by decide +kernel]
      exact iteT ⟨small_len (by decide), fun q hq => k q _ (s3.trans (same_new hq)) upd_same⟩
    | @free _ a x e hx =>
      cases leaf rfl e wq_free
      refine ⟨a, _, _, rfl, e, fun H3 s3 => ?_⟩
      rw [show inV (.str "free") ((["free", "bound", "false"] : List Str).map V.str) = true by decide +kernel]
      exact iteT ⟨small_len (by decide), fun q hq => k q _ (s3.trans (same_new hq)) upd_same⟩
    | @fls _ a e =>
      cases leaf rfl e wq_false
      refine ⟨a, _, _, rfl, e, fun H3 s3 => ?_⟩
      rw [show inV (.str "false") ((["free", "bound", "false"] : List Str).map V.str) = true by decide +kernel]
      exact iteT ⟨small_len (by decide), fun q hq => k q _ (s3.trans (same_new hq)) upd_same⟩
    | @nd _ _ zs' bd' hp _ _ =>
      obtain ⟨rfl, rfl⟩ := hpz.uniq (.inr hp)
      cases hp with
      | @app a b wd x zs e hw eb =>
        refine ⟨a, wd, _, rfl, e, fun H3 s3 => ?_⟩
        rw [show inV (.str wd) ((["free", "bound", "false"] : List Str).map V.str) = false by rcases in_args_w (wq1 hw) with rfl | rfl | rfl <;> decide +kernel]
        refine iteF ⟨a, wd, _, rfl, s3 _ _ e, fun H4 s4 => ?_⟩
        rw [show inV (.str wd) ((["form", "call", "atom"] : List Str).map V.str) = true by rcases in_args_w (wq1 hw) with rfl | rfl | rfl <;> decide +kernel]
        have s34 := s3.trans s4
        exact iteT ⟨_, rfl, a, _, 2, _, rfl, rfl, SqT.of (s34 _ _ e), rfl, k b H4 s34 (s34 _ _ eb)⟩
      | @pair a wd y z e hw =>
        refine ⟨a, wd, _, rfl, e, fun H3 s3 => ?_⟩
        rw [show inV (.str wd) ((["free", "bound", "false"] : List Str).map V.str) = false by rcases in_pair_w (wq2 hw).2 with rfl | rfl | rfl | rfl <;> decide +kernel]
        refine iteF ⟨a, wd, _, rfl, s3 _ _ e, fun H4 s4 => ?_⟩
        rw [show inV (.str wd) ((["form", "call", "atom"] : List Str).map V.str) = false by rcases in_pair_w (wq2 hw).2 with rfl | rfl | rfl | rfl <;> decide +kernel]
        have s34 := s3.trans s4
        refine iteF ⟨a, wd, _, rfl, s34 _ _ e, fun H5 s5 => ?_⟩
        rw [show inV (.str wd) ((["all", "some"] : List Str).map V.str) = false by rcases in_pair_w (wq2 hw).2 with rfl | rfl | rfl | rfl <;> decide +kernel]
        have s35 := s34.trans s5
        refine iteF ⟨_, rfl, _, rfl, a, _, rfl, s35 _ _ e, fun p6 H6 e6 s6 => ?_⟩
        exact k p6 H6 (s35.trans s6) (by rw [e6]; exact congrArg (fun l => some (HO.tup l)) (cutFrom (xs := [V.str wd, y, z]) (k := 1) (by show 1 ≤ 3; decide)))
      | @bind a wd x z e hw =>
        refine ⟨a, wd, _, rfl, e, fun H3 s3 => ?_⟩
        rw [show inV (.str wd) ((["free", "bound", "false"] : List Str).map V.str) = false by rcases in_bind_w (wq3 hw).2.2 with rfl | rfl <;> decide +kernel]
        refine iteF ⟨a, wd, _, rfl, s3 _ _ e, fun H4 s4 => ?_⟩
        rw [show inV (.str wd) ((["form", "call", "atom"] : List Str).map V.str) = false by rcases in_bind_w (wq3 hw).2.2 with rfl | rfl <;> decide +kernel]
        have s34 := s3.trans s4
        refine iteF ⟨a, wd, _, rfl, s34 _ _ e, fun H5 s5 => ?_⟩
        rw [show inV (.str wd) ((["all", "some"] : List Str).map V.str) = true by rcases in_bind_w (wq3 hw).2.2 with rfl | rfl <;> decide +kernel]
        have s35 := s34.trans s5
        refine iteT ⟨_, rfl, _, rfl, a, _, rfl, s35 _ _ e, fun p6 H6 e6 s6 => ?_⟩
        exact k p6 H6 (s35.trans s6) (by rw [e6]; exact congrArg (fun l => some (HO.tup l)) (cutFrom (xs := [V.str wd, .str x, z]) (k := 2) (by show 2 ≤ 3; decide)))
end
theorem IsX.freKp {N : List V} {H H' : Hp} {B : Int} {v : V} (h : IsX N H B v) (k : Kp H H') {y : Str} : Fre H' y v ↔ Fre H y v := by
  refine ⟨fun hf => ?_, fun hf => hf.kp k⟩
  induction h with
  | bound e _ _ => exact (Fre.leaf e wq_bound).mpr ((Fre.leaf (k.1 _ _ e) wq_bound).mp hf)
  | free e _ => exact (Fre.leaf e wq_free).mpr ((Fre.leaf (k.1 _ _ e) wq_free).mp hf)
  | fls e => exact (Fre.leaf e wq_false).mpr ((Fre.leaf (k.1 _ _ e) wq_false).mp hf)
  | nd hp _ _ ih =>
    obtain ⟨z, hz, h⟩ := (Fre.nd (hp.kp k)).mp hf
    exact .part hp hz (ih z hz h)
/-- the dict at d: its names -/
structure DS (N : List V) (d : Addr) (H : Hp) (L : List Str) : Prop where
  ex : ∃ kvs : List (Key × V), H d = some (.dK kvs) ∧ kvs.map (·.1) = L.map Sum.inr
  nd : L.Nodup
  sub : ∀ y ∈ L, V.str y ∈ N
def But (d : Addr) (H H' : Hp) : Prop := ∀ b o, b ≠ d → H b = some o → H' b = some o
theorem But.trans {d : Addr} {H H1 H2 : Hp} (a : But d H H1) (b : But d H1 H2) : But d H H2 := fun c o hc e => b c o hc (a c o hc e)
theorem Same.but {d : Addr} {H H' : Hp} (s : Same H H') : But d H H' := fun b o _ e => s b o e
theorem But.kp {N N' : List V} {d : Addr} {H H' : Hp} {L L' : List Str} (b : But d H H') (x : DS N d H L) (y : DS N' d H' L') : Kp H H' := by
  obtain ⟨kvs, e, _⟩ := x.ex
  obtain ⟨kvs', e', _⟩ := y.ex
  refine ⟨fun a xs h => b a _ (ne_of h e (by intro z; cases z)) h, fun a xs h => ⟨xs, b a _ (ne_of h e (by intro z; cases z)) h⟩, fun a ks h => ?_⟩
  by_cases ha : a = d
  · subst ha; exact ⟨_, e'⟩
  · exact ⟨_, b a _ ha h⟩
theorem DS.same {N : List V} {d : Addr} {H H' : Hp} {L : List Str} (x : DS N d H L) (s : Same H H') : DS N d H' L := by
  obtain ⟨kvs, e, h⟩ := x.ex
  exact ⟨⟨kvs, s _ _ e, h⟩, x.nd, x.sub⟩
theorem DS.len {N : List V} {d : Addr} {H : Hp} {L : List Str} (x : DS N d H L) : L.length ≤ N.length := len_le x.nd x.sub
theorem putK_keys {kvs : List (Key × V)} {L : List Str} (h : kvs.map (·.1) = L.map Sum.inr) (y : Str) (v : V) : (putK kvs (Sum.inr y) v).map (·.1) = (if y ∈ L then L else L ++ [y]).map Sum.inr := by
  have hany : (kvs.any fun kv => decide (kv.1 = (Sum.inr y : Key))) = true ↔ y ∈ L := by
    rw [List.any_eq_true]
    constructor
    · rintro ⟨kv, hk, hd⟩
      have hd' := of_decide_eq_true hd
      have : kv.1 ∈ kvs.map (·.1) := List.mem_map.mpr ⟨kv, hk, rfl⟩
      rw [h, hd', List.mem_map] at this
      obtain ⟨z, hz, e⟩ := this
      injection e with e
      rw [← e]
      exact hz
    · intro hy
      have : (Sum.inr y : Key) ∈ kvs.map (·.1) := by rw [h]; exact List.mem_map.mpr ⟨y, hy, rfl⟩
      obtain ⟨kv, hk, e⟩ := List.mem_map.mp this
      exact ⟨kv, hk, decide_eq_true e⟩
  unfold putK
  by_cases hy : y ∈ L
  · rw [if_pos (hany.mpr hy), if_pos hy, List.map_map, ← h]
    refine List.map_congr_left fun kv _ => ?_
    show (if kv.1 = Sum.inr y then (kv.1, v) else kv).1 = kv.1
    split <;> rfl
  · rw [if_neg (fun z => hy (hany.mp z)), if_neg hy, List.map_append, List.map_append, h]
    rfl
def uPut (N : List V) : TS := fun D σ H => ∃ v d L B, σ = [some v, some (.ref d)] ∧ IsX N H B v ∧ DS N d H L ∧ N.length < 64 ∧ ∀ H' L', But d H H' → DS N d H' L' → (∀ y, y ∈ L' ↔ y ∈ L ∨ ∃ a, v = .ref a ∧ H a = some (.tup [.str "free", .str y])) → D.nx σ H'
def spWalk (N : List V) (n : Nat) : Sp := fun vs H Q _ => ∃ v d c B L, vs = [v, .ref d] ∧ IsX N H B v ∧ Dx H n v ∧ Cn H c v ∧ DS N d H L ∧ N.length < 64 ∧ ∀ H' L', But d H H' → DS N d H' L' → (∀ y, y ∈ L' ↔ y ∈ L ∨ Fre H y v) → Q (.int (c : Nat)) H'
def spWalkR (N : List V) : Nat → Sp
  | 0 => fun _ _ _ _ => False
  | n + 1 => spWalk N n
abbrev walkPs : List Str := ["_law_thing", "_law_found"]
theorem sum_ofNat : ∀ ms : List Nat, (ms.map fun m : Nat => (m : Int)).sum = ((ms.sum : Nat) : Int)
  | [] => rfl
  | m :: ms => by rw [List.map_cons, List.sum_cons, List.sum_cons, sum_ofNat ms]; omega
section
variable {N : List V} {P : Program} {w : World} {K : PySem.W.Frag} {mg : Str → Option Value} {base : Heap}
theorem scWalk : FnScope walkPs walkPs (defScope sWalk) := ⟨rfl, rfl, rfl, by decide +kernel, rfl, by decide +kernel, by decide +kernel⟩
theorem ok_walk1 {n : Nat} {f f1 : Addr} {fd fd1 : FuncData} (D : Def K mg "_law_walk" sWalk walkPs f fd) (T : Txt2 K mg) (D1 : Def K mg "_law_inner" sInner ["_law_thing"] f1 fd1) (G : FnOk P w K mg base CX0 (n + 1) f fd walkPs (spWalkR N n)) : FnOk P w K mg base CX0 (n + 2) f fd walkPs (spWalk N n) := by
  have G1 : FnOk P w K mg base CX0 1 f1 fd1 ["_law_thing"] (spInner N) := ok_inner D1.F
  refine D.F.ok scWalk (fun vs H Q E h => ?_) (fun cdv A outer s H vs Q E hr h => ?_)
  · obtain ⟨v, d, c, B, L, rfl, _⟩ := h
    rfl
  · obtain ⟨v, d, c, B, L, rfl, hv, hn, hc, hD, hN, k⟩ := h
    have hr1 : Room 1 _ := hr.mono (by omega)
    refine ⟨_, pss_cons (ps_imp (u := uPut N) (ps_if (pt_cmpR op_eq (pe_ix ix_tup (pv 0) (pe_int) (fun _ _ => rfl)) (pe_str) (nomark _)) (pss_one (ps_dput (hu_of hr) (pv 1) (pe_ix ix_tup (pv 0) (pe_int) (fun _ _ => rfl)) (pe_bl) rfl)) (pss_nil)) ?put)
      (pss_one (ps_ret (pe_op op_add (pe_int) (pe_callB (call_sumL rfl) (by rfl) T.sum L2.boot_sum (pa_cons (pe_comp rfl (pi_tup (pe_call G1 hr1 rfl D1.m D1.k D1.b .nil pass0 (pa_cons (pv 0) (pa_nil)))) (caps_of (cn := ["_law_found"]) (caps := [1]) [(".0", .local), ("_law_part", .local), ("_law_walk", .globalImplicit), ("_law_found", .cell)] rfl (by decide +kernel) rfl (by decide +kernel) rfl (by decide +kernel) rfl rfl
                (List.forall_mem_cons.mpr ⟨rfl, fun _ h => nomatch h⟩)
                (by
                  intro yk h
                  repeat (first | (rcases List.mem_cons.mp h with h | h; · subst h; intro hk; first | exact ⟨_, rfl⟩ | (rcases hk with hk | hk <;> cases hk)) | exact absurd h (by simp)))
                (List.forall_mem_cons.mpr ⟨⟨rfl, .inr (.inl rfl), .inl rfl, .inl rfl⟩, fun _ h => nomatch h⟩)) (fun C ex s' H' => pe_call G hr rfl D.m D.k D.b .nil pass0 (pa_cons (pv 0) (pa_cons (pv 1) (pa_nil))))) (pa_nil)))))), ?_⟩
    case put =>
      rintro D2 σ H2 ⟨v, d, L, B, rfl, hx, hD, hN, k2⟩
      cases hx with
      | @bound _ a i e _ _ =>
        refine ⟨_, rfl, a, _, 0, _, rfl, rfl, SqT.of e, rfl, rfl, _, rfl, ?_⟩
        show if decide (V.str "bound" = V.str "free") = true then _ else _
        rw [show decide (V.str "bound" = V.str "free") = false by decide +kernel]
        refine iteF (k2 H2 L (fun _ _ _ h => h) hD fun y => ⟨.inl, fun h => h.elim id ?_⟩)
        rintro ⟨b, eb, e2⟩
        cases eb
        rw [e] at e2
        simp at e2
      | @free _ a y e hy =>
        refine ⟨_, rfl, a, _, 0, _, rfl, rfl, SqT.of e, rfl, rfl, _, rfl, ?_⟩
        show if decide (V.str "free" = V.str "free") = true then _ else _
        rw [show decide (V.str "free" = V.str "free") = true by decide +kernel]
        obtain ⟨kvs, ed, hk⟩ := hD.ex
        have hlen := hD.len
        have hkl : kvs.length = L.length := by
          have := congrArg List.length hk
          simpa using this
        refine iteT ⟨_, rfl, _, rfl, a, _, 1, _, rfl, rfl, SqT.of e, rfl, d, _, rfl, DPut.k (k := Sum.inr y) ed (by rw [sizeLine_eq]; omega), ?_⟩
        refine k2 _ (if y ∈ L then L else L ++ [y]) (fun b o hb h => by rw [upd_ne hb]; exact h) ⟨⟨_, upd_same, putK_keys hk y _⟩, ?_, fun z hz => ?_⟩ fun z => ?_
        · split
          · exact hD.nd
          · rename_i hny
            rw [List.nodup_append]
            refine ⟨hD.nd, by simp, fun u hu z hz => ?_⟩
            rw [List.mem_singleton.mp hz]
            rintro rfl
            exact hny hu
        · by_cases hny : y ∈ L
          · rw [if_pos hny] at hz; exact hD.sub z hz
          · rw [if_neg hny] at hz
            rcases List.mem_append.mp hz with hz | hz
            · exact hD.sub z hz
            · rw [List.mem_singleton.mp hz]; exact hy
        · have e2 : ∀ b, (V.ref a = .ref b ∧ H2 b = some (.tup [.str "free", .str z])) → z = y := by
            rintro b ⟨eb, h⟩
            cases eb
            rw [e] at h
            simp at h
            exact h.symm
          split
          · rename_i hny
            exact ⟨.inl, fun h => h.elim id fun ⟨b, hb⟩ => by rw [e2 b hb]; exact hny⟩
          · rw [List.mem_append, List.mem_singleton]
            exact ⟨fun h => h.elim .inl fun h => .inr ⟨a, rfl, by rw [h]; exact e⟩, fun h => h.elim .inl fun ⟨b, hb⟩ => .inr (e2 b hb)⟩
      | @fls _ a e =>
        refine ⟨_, rfl, a, _, 0, _, rfl, rfl, SqT.of e, rfl, rfl, _, rfl, ?_⟩
        show if decide (V.str "false" = V.str "free") = true then _ else _
        rw [show decide (V.str "false" = V.str "free") = false by decide +kernel]
        refine iteF (k2 H2 L (fun _ _ _ h => h) hD fun y => ⟨.inl, fun h => h.elim id ?_⟩)
        rintro ⟨b, eb, e2⟩
        cases eb
        rw [e] at e2
        simp at e2
      | @nd _ _ zs bd hpn _ _ =>
        obtain ⟨a, wd, r, rfl, e, hwf⟩ := hpn.noFree
        have at0 : atI (V.str wd :: r) 0 = some (.str wd) := atI_nat (xs := V.str wd :: r) (j := 0) (v := .str wd) rfl
        refine ⟨_, rfl, a, _, 0, _, rfl, rfl, SqT.of e, at0, rfl, _, rfl, ?_⟩
        show if decide (V.str wd = V.str "free") = true then _ else _
        rw [decide_eq_false (fun h => hwf (by injection h))]
        refine iteF (k2 H2 L (fun _ _ _ h => h) hD fun y => ⟨.inl, fun h => h.elim id ?_⟩)
        rintro ⟨b, eb, e2⟩
        cases eb
        rw [e] at e2
        simp at e2
        exact absurd e2.1 hwf
    refine ⟨v, d, L, B, rfl, hv, hD, hN, fun H3 L3 b3 hD3 hL3 => ?_⟩
    have kp3 := b3.kp hD hD3
    obtain ⟨zs, bd, hpz, hl4, hzs⟩ := hv.parts
    obtain ⟨ms, rfl, hml, hmc⟩ := hc.parts hpz
    refine ⟨_, rfl, v, zs, bd, B, rfl, hv.kp kp3, hpz.kp kp3, fun q H4 s4 eq => ?_⟩
    have kp4 : Kp H H4 := ⟨fun a xs e => s4 _ _ (kp3.1 a xs e), fun a xs e => (kp3.2.1 a xs e).elim fun ys h => ⟨ys, s4 _ _ h⟩, fun a xs e => (kp3.2.2 a xs e).elim fun ys h => ⟨ys, s4 _ _ h⟩⟩
    have hD4 := hD3.same s4
    have b4 : But d H H4 := b3.trans (Same.but s4)
    have hqd : q ≠ d := by
      obtain ⟨kvs, e, _⟩ := hD4.ex
      exact ne_of eq e (by intro z; cases z)
    refine ⟨q, rfl, ⟨zs, SqT.of eq⟩, zs.length, fun i rs H5 => i ≤ zs.length ∧ ∃ L5, But d H4 H5 ∧ DS N d H5 L5 ∧ rs = (ms.take i).map (fun m : Nat => V.int (m : Int)) ∧ ∀ y, y ∈ L5 ↔ y ∈ L3 ∨ ∃ z ∈ zs.take i, Fre H y z, by rw [sizeLine_eq]; omega, ⟨Nat.zero_le _, L3, fun _ _ _ h => h, hD4, rfl, by simp⟩, ?_⟩
    rintro i rs H5 ⟨hi, L5, b5, hD5, rfl, hL5⟩
    have eq5 := b5 q _ hqd eq
    by_cases hlt : i < zs.length
    · refine .inr ⟨⟨zs, zs[i], SqT.of eq5, by simp [hlt]⟩, hlt, ?_⟩
      rintro x H6 ⟨rfl, hx⟩
      have hx' := hx zs (SqT.of eq5)
      have hm := List.mem_of_getElem? hx'
      have hil : i < ms.length := by omega
      have kp5 : Kp H H6 := (b4.trans b5).kp hD hD5
      rcases hn.parts hpz with h0 | ⟨n', rfl, hd⟩
      · rw [h0] at hm; cases hm
      · refine ⟨_, rfl, _, rfl, x, d, ms[i], _, L5, rfl, (hzs x hm).kp kp5, (hd x hm).kp kp5, (hmc i x ms[i] hx' (by simp [hil])).kp kp5, hD5, hN, fun H7 L7 b7 hD7 hL7 => ⟨hlt, L7, b5.trans b7, hD7, ?_, fun y => ?_⟩⟩
        · rw [List.take_add_one, List.getElem?_eq_getElem hil, List.map_append]
          rfl
        · rw [hL7 y, hL5 y, List.take_add_one, hx']
          have hfr : Fre H6 y x ↔ Fre H y x := (hzs x hm).freKp kp5
          rw [hfr]
          constructor
          · rintro ((h | ⟨z, hz, h⟩) | h)
            · exact .inl h
            · exact .inr ⟨z, List.mem_append_left _ hz, h⟩
            · exact .inr ⟨x, List.mem_append_right _ (by simp), h⟩
          · rintro (h | ⟨z, hz, h⟩)
            · exact .inl (.inl h)
            · rcases List.mem_append.mp hz with hz | hz
              · exact .inl (.inr ⟨z, hz, h⟩)
              · have : z = x := by simpa using hz
                subst this
                exact .inr h
    · refine .inl ⟨⟨zs, SqT.of eq5, by omega⟩, fun p hp6 => ?_⟩
      have hie : i = zs.length := by omega
      have htk : ms.take i = ms := List.take_of_length_le (by omega)
      rw [htk]
      have e6 : ms.map (fun m : Nat => V.int (m : Int)) = (ms.map fun m : Nat => (m : Int)).map V.int := by rw [List.map_map]; rfl
      rw [e6]
      refine ⟨p, ms.map fun m : Nat => (m : Int), rfl, SqL.of upd_same, _, _, rfl, rfl, ?_⟩
      rw [sum_ofNat]
      have hs6 : Same H5 (upd H5 p (.lst ((ms.map fun m : Nat => (m : Int)).map V.int))) := same_new hp6
      have := k _ L5 ((b4.trans b5).trans (Same.but hs6)) (hD5.same hs6) fun y => by
        rw [hL5 y, hL3 y, hv.fre hpz y, hie, List.take_length, or_assoc]
      have ec : ((1 + ms.sum : Nat) : Int) = 1 + ((ms.sum : Nat) : Int) := by omega
      rw [ec] at this
      exact this
theorem ok_walk {f f1 : Addr} {fd fd1 : FuncData} (D : Def K mg "_law_walk" sWalk walkPs f fd) (T : Txt2 K mg) (D1 : Def K mg "_law_inner" sInner ["_law_thing"] f1 fd1) : ∀ n : Nat, FnOk P w K mg base CX0 (n + 2) f fd walkPs (spWalk N n)
  | 0 => ok_walk1 D T D1 ⟨fun _ _ _ _ h => h.elim, fun _ _ _ _ _ _ _ _ _ _ _ _ _ h => h.elim⟩
  | n + 1 => ok_walk1 (n := n + 1) D T D1 (ok_walk D T D1 n)
end
end K04
end
section
set_option Elab.async false
set_option linter.all false
set_option maxRecDepth 100000
set_option maxHeartbeats 4000000
namespace K04
open PySem L2 PyProof.Rows
theorem hu2 {A : Around} {k : Nat} (hr : Room k A) : A.units + 2 < cLine := Nat.lt_of_le_of_lt (Nat.add_le_add_left (by decide : 2 ≤ 64) _) hr.units
def spRight : Sp := fun vs H Q _ => ∃ N v n m B, vs = [v] ∧ Th N H B n m v ∧ n ≤ 70 ∧ m ≤ 2000 ∧ N.length < 64 ∧ ∀ H', Same H H' → Q (.bl true) H'
def exN (sp : List V → Sp) : Sp := fun vs H Q E => ∃ N, sp N vs H Q E
section
variable {P : Program} {w : World} {K : PySem.W.Frag} {mg : Str → Option Value} {base : Heap}
theorem FnOk.ex {k : Nat} {f : Addr} {fd : FuncData} {ps : List Str} {sp : List V → Sp} (h : ∀ N, FnOk P w K mg base CX0 k f fd ps (sp N)) : FnOk P w K mg base CX0 k f fd ps (exN sp) :=
  ⟨fun vs H Q E ⟨N, h'⟩ => (h N).len vs H Q E h', fun A outer s H args us vs Q E hr he hb hv ⟨N, h'⟩ => (h N).run A outer s H args us vs Q E hr he hb hv h'⟩
theorem scRight : FnScope ["_law_thing", "_law_found", "_law_many", "_law_told_here", "_law_turn", "_law_names"] ["_law_thing"] (defScope sRight) := ⟨rfl, rfl, rfl, by decide +kernel, rfl, by decide +kernel, by decide +kernel⟩
theorem ok_right {f fW fI fN fF fp : Addr} {fd fdW fdI fdN fdF fdp : FuncData} (F : Fun K "_law_right" "_law_right" sRight f fd) (T : Txt2 K mg) (DW : Def K mg "_law_walk" sWalk walkPs fW fdW) (DI : Def K mg "_law_inner" sInner ["_law_thing"] fI fdI)
    (DN : Def K mg "nodes" sNodes ["thing"] fN fdN) (DF : Def K mg "free_in" sFreeIn ["thing"] fF fdF) (Dp : Def K mg "parts_of" sParts ["thing"] fp fdp) : FnOk P w K mg base CX0 73 f fd ["_law_thing"] spRight := by
  refine F.ok scRight (fun vs H Q E h => ?_) (fun cdv A outer s H vs Q E hr h => ?_)
  · obtain ⟨N, v, n, m, B, rfl, _⟩ := h
    rfl
  · obtain ⟨N, v, n, m, B, rfl, hv, hn, hm, hN, k⟩ := h
    have GW : FnOk P w K mg base CX0 (n + 2) fW fdW walkPs (spWalk N n) := ok_walk DW T DI n
    have GN : FnOk P w K mg base CX0 2 fN fdN ["thing"] (spNodes N) := ok_nodes DN.F T Dp
    have GF : FnOk P w K mg base CX0 2 fF fdF ["thing"] (spFreeIn N) := ok_free DF.F T Dp
    have hrW : Room (n + 2) _ := hr.mono (by omega)
    have hr2 : Room 2 _ := hr.mono (by decide)
    obtain ⟨c, hcm, hc⟩ := hv.2.2.cn
    refine ⟨_, pss_cons (ps_set (i := 1) scRight.nd rfl (Or.inl rfl) (pe_dnewK))
      (pss_cons (ps_set (i := 2) scRight.nd rfl (Or.inl rfl) (pe_call GW hrW rfl DW.m DW.k DW.b .nil pass0 (pa_cons (pv 0) (pa_cons (pv 1) (pa_nil)))))
      (pss_cons (ps_set (i := 3) scRight.nd rfl (Or.inl rfl) (pe_call GN hr2 rfl DN.m DN.k DN.b .nil pass0 (pa_cons (pv 0) (pa_nil))))
      (pss_cons (ps_if (PW.pt (pw_or (pt_not (pt_val (pe_callB call_isinst (by rfl) T.isinstance PyProof.Rows.boot_isinstance (pa_cons (pv 3) (pa_cons (pe_bltn (v := .ty "int") rfl T.int PyProof.Rows.boot_int rfl) (pa_nil)))))) (pw_or (pt_val (pe_callB call_isinst (by rfl) T.isinstance PyProof.Rows.boot_isinstance (pa_cons (pv 3) (pa_cons (pe_bltn (v := .ty "bool") rfl T.bool PyProof.Rows.boot_bool rfl) (pa_nil))))) (pw_or1 (pt_cmpR op_ne (pv 3) (pv 2) (nomark _)))))) (pss_one (ps_ret (pe_bl))) (pss_nil))
      (pss_cons (ps_for PassesOwn.never rfl (pi_range1 rfl T.range (pa_cons (pe_int) (pa_nil))) (pg_name (i := 4) scRight.nd rfl (Or.inl rfl)) (pss_cons (ps_set (i := 5) scRight.nd rfl (Or.inl rfl) (pe_call GF hr2 rfl DF.m DF.k DF.b .nil pass0 (pa_cons (pv 0) (pa_nil))))
      (pss_cons (ps_if (PW.pt (pw_or (pt_not (pt_val (pe_callB call_isinst (by rfl) T.isinstance PyProof.Rows.boot_isinstance (pa_cons (pv 5) (pa_cons (pe_bltn (v := .ty "list") rfl T.list PyProof.Rows.boot_list rfl) (pa_nil)))))) (pw_or1 (pt_cmpR (op_neLS (hu2 hr)) (pv 5) (pe_callB (call_sortD rfl) (by rfl) T.sorted L2.boot_sorted (pa_cons (pv 1) (pa_nil))) (nomark _))))) (pss_one (ps_ret (pe_bl))) (pss_nil))
      (pss_one (ps_expr (pe_bm PySem.F.plainAttrs_list PySem.F.slot_list_append PySem.F.type_list_append mt_append (pv 5) (pa_cons (pe_str) (pa_nil))))))))
      (pss_one (ps_ret (pe_bl))))))), ?_⟩
    refine fun d hd => ?_
    have s1 : Same H (upd H d (.dK [])) := same_new hd
    have hD1 : DS N d (upd H d (.dK [])) [] := ⟨⟨[], upd_same, rfl⟩, by simp, by simp⟩
    generalize upd H d (.dK []) = H1 at s1 hD1
    have kp1 := Same.kp s1
    refine ⟨_, rfl, _, rfl, v, d, c, B, [], rfl, hv.1.kp kp1, hv.2.1.kp kp1, hc.kp kp1, hD1, hN, fun H2 L b2 hD2 hL2 => ?_⟩
    have s2 : Same H H2 := fun b o e => b2 b o (ne_of_none e hd) (s1 b o e)
    have kp2 := Same.kp s2
    refine ⟨_, rfl, v, c, B, rfl, hv.1.kp kp2, hc.kp kp2, by omega, fun H3 s3 => ?_⟩
    have s13 := s2.trans s3
    have hD3 := hD2.same s3
    refine ⟨_, rfl, _, _, "int", true, rfl, .int _, by rfl, _, rfl, ?_⟩
    refine iteF ⟨_, rfl, _, _, "bool", false, rfl, .int _, by rfl, _, rfl, ?_⟩
    refine iteF ⟨_, rfl, _, rfl, rfl, _, rfl, ?_⟩
    have hne : (!decide (V.int ((c : Nat) : Int) = V.int ((c : Nat) : Int))) = false := by simp
    show if (!decide (V.int ((c : Nat) : Int) = V.int ((c : Nat) : Int))) = true then _ else _
    rw [hne]
    refine iteF ⟨2, rfl, by decide, by decide, for_range (n := 2) (fun i σ H4 => ∃ v4 v5, σ = [some v, some (.ref d), some (.int (c : Nat)), some (.int (c : Nat)), v4, v5] ∧ Same H H4 ∧ DS N d H4 L) ⟨_, _, rfl, s13, hD3⟩ ?_ ?_⟩
    · rintro i σ H4 hi ⟨v4, v5, rfl, s4, hD4⟩
      have kp4 := Same.kp s4
      refine ⟨_, rfl, v, c, B, rfl, hv.1.kp kp4, hc.kp kp4, by omega, hN, fun q ss H5 s5 hq e5 hs hnd hmem => ?_⟩
      have hD5 := hD4.same s5
      obtain ⟨kvs, ed, hk⟩ := hD5.ex
      have hlen := hD5.len
      refine ⟨_, rfl, _, _, "list", true, rfl, .lst e5, by rfl, _, rfl, ?_⟩
      refine iteF ⟨_, rfl, _, rfl, d, kvs, L, rfl, ed, hk, by omega, fun q6 ss6 hq6 hpm hs6 => ?_⟩
      have hmem2 : ∀ y, y ∈ ss6 ↔ y ∈ ss := fun y => by
        rw [hpm.mem_iff, hL2 y, hmem y, hv.1.freKp kp4, hv.1.freKp kp1]
        simp
      have hss : ss6 = ss := hs6.uniq hs (TXS.perm_of_mem (hpm.nodup_iff.mpr hD5.nd) hnd hmem2)
      subst hss
      have s6 : Same H5 (upd H5 q6 (.lst (ss6.map V.str))) := same_new hq6
      have e66 : upd H5 q6 (.lst (ss6.map V.str)) q6 = some (.lst (ss6.map V.str)) := upd_same
      have e56 := s6 _ _ e5
      generalize upd H5 q6 (.lst (ss6.map V.str)) = H6 at s6 e66 e56
      refine ⟨q, q6, ss6, rfl, rfl, e56, e66, _, rfl, iteF ?_⟩
      have hdq : d ≠ q := by
        rintro rfl
        obtain ⟨_, e4d, _⟩ := hD4.ex
        rw [e4d] at hq
        cases hq
      have hssl : ss6.length ≤ 64 := by
        have := hpm.length_eq
        omega
      refine ⟨_, rfl, .inl ⟨rfl, _, SqL.of e56⟩, q, _, _, rfl, rfl, e56, by rw [List.length_map, sizeLine_eq]; omega, ?_⟩
      refine ⟨_, _, rfl, fun b o e => ?_, ?_⟩
      · have hb : b ≠ q := ne_of_none (s4 b o e) hq
        rw [upd_ne hb]
        exact s6 _ _ (s5 _ _ (s4 b o e))
      · obtain ⟨kv6, ed6, hk6⟩ := (hD5.same s6).ex
        exact ⟨⟨kv6, by rw [upd_ne hdq]; exact ed6, hk6⟩, hD5.nd, hD5.sub⟩
    · rintro σ H4 ⟨v4, v5, rfl, s4, hD4⟩
      exact k H4 s4
def spLaw (K : PySem.W.Frag) : Sp := fun vs H Q _ => ∃ (a : Addr) (ns : List Int), vs = [.ref a] ∧ SqL K H a (ns.map V.int) ∧ ns.length ≤ 63 ∧ ∀ H', Q (.bl true) H'
theorem Same.seq {H H' : Hp} {a : Addr} {xs : List V} (s : Same H H') (h : SqL K H a xs) : SqL K H' a xs := by
  rcases h with (h | ⟨o, h⟩) | h
  · exact .inl (.inl (s _ _ h))
  · exact .inl (.inr ⟨o, s _ _ h⟩)
  · exact .inr h
theorem PoolOk.len {N : List V} {H : Hp} {q : Addr} (h : PoolOk N H q) : N.length = 9 := by
  obtain ⟨a, b, c, xs, ys, zs, e, ea, _, _, hx, _⟩ := h.ex
  rw [← h.eqN e ea]
  exact hx.1
theorem scLaw : FnScope ["_law_script", "_law_k", "_law_state_here", "_law_pool_here"] ["_law_script"] (defScope sLaw) := ⟨rfl, rfl, rfl, by decide +kernel, rfl, by decide +kernel, by decide +kernel⟩
theorem ok_law {f f1 f2 f3 f4 f5 f6 : Addr} {fd fd1 fd2 fd3 fd4 fd5 fd6 : FuncData} (F : Fun K "law" "law" sLaw f fd) (T : Txt2 K mg) (DSt : Def K mg "_law_state" sState ["_law_script", "_law_k"] f1 fd1) (DP : Def K mg "_law_pool" sPool ["_law_state_here"] f2 fd2)
    (DA : Def K mg "_law_any_term" sAny ["_law_state_here", "_law_pool_here", "_law_bounds"] f3 fd3) (DT : Def K mg "_law_any_told" sAnyT toldPs f4 fd4) (DD : Def K mg "_law_draw" sDraw ["_law_state_here", "_law_many"] f5 fd5) (DR : Def K mg "_law_right" sRight ["_law_thing"] f6 fd6)
    (GP : FnOk P w K mg base CX0 4 f2 fd2 ["_law_state_here"] spPool) (GA : FnOk P w K mg base CX0 8 f3 fd3 ["_law_state_here", "_law_pool_here", "_law_bounds"] (exN spAny)) (GT : FnOk P w K mg base CX0 11 f4 fd4 toldPs (exN spAnyT))
    (GR : FnOk P w K mg base CX0 73 f6 fd6 ["_law_thing"] spRight) : FnOk P w K mg base CX0 74 f fd ["_law_script"] (spLaw K) := by
  have GS : FnOk P w K mg base CX0 1 f1 fd1 ["_law_script", "_law_k"] (spState K) := ok_state DSt.F T.toTxt
  have GD : FnOk P w K mg base CX0 1 f5 fd5 ["_law_state_here", "_law_many"] spDraw := ok_draw DD.F
  refine F.ok scLaw (fun vs H Q E h => ?_) (fun cdv A outer s H vs Q E hr h => ?_)
  · obtain ⟨a, ns, rfl, _⟩ := h
    rfl
  · obtain ⟨a, ns, rfl, hS, hlen, k⟩ := h
    have hr1 : Room 1 _ := hr.mono (by decide)
    have hr4 : Room 4 _ := hr.mono (by decide)
    have hr8 : Room 8 _ := hr.mono (by decide)
    have hr11 : Room 11 _ := hr.mono (by decide)
    refine ⟨_, pss_cons (ps_for PassesOwn.never rfl (pi_range1 rfl T.range (pa_cons (pe_op op_add (pe_int) (pe_callB call_len (by rfl) T.len PySem.boot_len (pa_cons (pe_slice sl_list (pv 0) po_none (po_some pe_int)) (pa_nil)))) (pa_nil))) (pg_name (i := 1) scLaw.nd rfl (Or.inl rfl)) (pss_cons (ps_set (i := 2) scLaw.nd rfl (Or.inl rfl) (pe_call GS hr1 rfl DSt.m DSt.k DSt.b .nil pass0 (pa_cons (pv 0) (pa_cons (pv 1) (pa_nil)))))
      (pss_cons (ps_set (i := 3) scLaw.nd rfl (Or.inl rfl) (pe_call GP hr4 rfl DP.m DP.k DP.b .nil pass0 (pa_cons (pv 2) (pa_nil))))
      (pss_cons (ps_if (pt_not (pt_val (pe_call GR hr rfl DR.m DR.k DR.b .nil pass0 (pa_cons (pe_call GA hr8 rfl DA.m DA.k DA.b .nil pass0 (pa_cons (pv 2) (pa_cons (pv 3) (pa_cons (pe_int) (pa_nil))))) (pa_nil))))) (pss_one (ps_ret (pe_bl))) (pss_nil))
      (pss_one (ps_if (pt_not (pt_val (pe_call GR hr rfl DR.m DR.k DR.b .nil pass0 (pa_cons (pe_call GT hr11 rfl DT.m DT.k DT.b .nil pass0 (pa_cons (pv 2) (pa_cons (pv 3) (pa_cons (pe_call GD hr1 rfl DD.m DD.k DD.b .nil pass0 (pa_cons (pv 2) (pa_cons (pe_int) (pa_nil)))) (pa_cons (pe_int) (pa_nil)))))) (pa_nil))))) (pss_one (ps_ret (pe_bl))) (pss_nil)))))))
      (pss_one (ps_ret (pe_call GR hr rfl DR.m DR.k DR.b .nil pass0 (pa_cons (pe_tup (pa_cons (pe_str) (pa_nil))) (pa_nil))))), ?_⟩
    refine ⟨_, rfl, _, rfl, a, _, rfl, hS, fun p0 h0 => ⟨_, _, rfl, .inl ⟨_, SqL.of upd_same, rfl⟩, _, _, rfl, rfl, ?_⟩⟩
    have hcut := cutV_length (ns.map V.int) none (some 16)
    rw [List.length_map] at hcut
    have hcut' : (cutV (ns.map V.int) none (some 16)).length ≤ 63 := by omega
    generalize (cutV (ns.map V.int) none (some 16)).length = L at hcut'
    have s0 : Same H (upd H p0 (.lst (cutV (ns.map V.int) none (some 16)))) := same_new h0
    refine ⟨_, rfl, by omega, by omega, for_range (fun i σ H2 => ∃ v1 v2 v3, σ = [some (.ref a), v1, v2, v3] ∧ Same H H2) ⟨_, _, _, rfl, s0⟩ ?_ ?_⟩
    · rintro i σ H2 hi ⟨v1, v2, v3, rfl, s2⟩
      refine ⟨_, rfl, _, rfl, a, _, ns, rfl, Same.seq s2 hS, hlen, by omega, by omega, fun p x y hp sd => ?_⟩
      have s3 : Same H2 (upd H2 p (lsV x y)) := same_new hp
      have ep : upd H2 p (lsV x y) p = some (lsV x y) := upd_same
      generalize upd H2 p (lsV x y) = H3 at s3 ep
      refine ⟨_, rfl, p, x, y, rfl, ep, sd, fun q N H4 hq M4 => ?_⟩
      obtain ⟨x4, y4, e4, sd4⟩ := M4.st
      have hNl := hq.len
      refine ⟨_, rfl, _, rfl, N, p, q, x4, y4, 2, rfl, e4, sd4, hq, by decide, by decide, fun t H5 ht M5 => ?_⟩
      obtain ⟨x5, y5, e5, sd5⟩ := M5.st
      have hq5 := hq.mv e4 M5
      refine ⟨N, t, 60, 300, _, rfl, Tm.th (n := 60) ht, by decide, by decide, by omega, fun H6 s6 => ⟨_, rfl, iteF ?_⟩⟩
      have e6 := s6 _ _ e5
      have hq6 : PoolOk N H6 q := hq5.mv e5 ((Mv.start e5 sd5).same s6)
      refine ⟨_, rfl, _, rfl, _, rfl, p, 5, x5, y5, rfl, e6, by decide, by decide, sd5, fun d x7 y7 d0 d1 sd7 => ?_⟩
      have M7 : Mv H6 p (upd H6 p (lsV x7 y7)) := (Mv.start e6 sd5).draw sd7
      have e7 : upd H6 p (lsV x7 y7) p = some (lsV x7 y7) := upd_same
      generalize upd H6 p (lsV x7 y7) = H7 at M7 e7
      have hq7 := hq6.mv e6 M7
      refine ⟨N, p, q, x7, y7, d, 1, rfl, e7, sd7, hq7, d0, d1, by decide, by decide, fun u H8 hu M8 => ?_⟩
      refine ⟨N, u, 27, 1400, _, rfl, hu, by decide, by decide, by omega, fun H9 s9 => ⟨_, rfl, iteF ⟨_, _, _, rfl, fun b o e => ?_⟩⟩⟩
      have w2 := s2 _ _ e
      have np : b ≠ p := ne_of_none w2 hp
      exact s9 _ _ (M8.keep _ _ (M7.keep _ _ (s6 _ _ (M5.keep _ _ (M4.keep _ _ (s3 _ _ w2) np) np)) np) np)
    · rintro σ H2 ⟨v1, v2, v3, rfl, s2⟩
      refine ⟨small_len (by show 1 ≤ 100; decide), fun q3 hq3 => ?_⟩
      have e3 : upd H2 q3 (.tup [.str "false"]) q3 = some (.tup [.str "false"]) := upd_same
      generalize upd H2 q3 (.tup [.str "false"]) = H3 at e3
      have lf : LeafN H3 (.ref q3) := ⟨_, _, _, rfl, e3, wq_false⟩
      exact ⟨[], .ref q3, 0, 1, 0, rfl, ⟨.fls e3, .leaf lf, .leaf lf⟩, by decide, by decide, by decide, fun H4 _ => k H4⟩
end
end K04
end
section
set_option Elab.async false
set_option linter.all false
set_option maxRecDepth 100000
set_option maxHeartbeats 1000000
namespace K04
open PySem L2 PyProof.Rows
/-- a def of the top, as it is found -/
structure Fnd (K : PySem.W.Frag) (x : Str) (st : Stmt) : Prop where
  ex : ∃ (f : Addr) (od an : Option Addr) (sl : Array (Option Value)) (oc kV dc pm cd ct : Value), PySem.W.nsIn K mainGlobals x = some (some (.ref f)) ∧ K.lookup f = some ⟨oc, od, .func (PySem.W.fnOf x x (defArgs st) (defBody st) (defScope st) .none kV dc pm an cd ct), sl⟩ ∧ PySem.W.codeIn K cd x = true ∧ PySem.W.keepIn K (.ref f) = true
theorem fnd_mk {K : PySem.W.Frag} {x : Str} {st : Stmt} {f : Addr} {od an : Option Addr} {sl : Array (Option Value)} {oc kV dc pm cd ct : Value} (a : PySem.W.nsIn K mainGlobals x = some (some (.ref f))) (l : K.lookup f = some ⟨oc, od, .func (PySem.W.fnOf x x (defArgs st) (defBody st) (defScope st) .none kV dc pm an cd ct), sl⟩)
    (c : PySem.W.codeIn K cd x = true) (k : PySem.W.keepIn K (.ref f) = true) : Fnd K x st := ⟨f, od, an, sl, oc, kV, dc, pm, cd, ct, a, l, c, k⟩
theorem Fnd.def {K : PySem.W.Frag} {h : Heap} {mg : Str → Option Value} {x : Str} {st : Stmt} {ps : List Str} (X : K.In h) (G : h.Ns mainGlobals mg) (F : Fnd K x st)
    (hb : ∀ (kV doc pm : Value) (an : Option Addr) (cdv ct : Value) (us : List Value), us.length = ps.length → bindArgs (PySem.W.fnOf x x (defArgs st) (defBody st) (defScope st) .none kV doc pm an cdv ct) ⟨us, []⟩ = pure (ps.zip us)) : ∃ f fd, Def K mg x st ps f fd := by
  obtain ⟨f, od, an, sl, oc, kV, dc, pm, cd, ct, a, l, c, k⟩ := F.ex
  have F' := fun_mk (st := st) l c k
  exact ⟨_, _, F', F'.binds hb, PySem.W.mg_of X G a, k⟩
theorem words_mk {K : PySem.W.Frag} {a : Addr} {od : Option Addr} {sl : Array (Option Value)} {n : Nat} {us : List Value} {vs : List V} (l : K.lookup a = some ⟨.type "tuple", od, .seq us.toArray n, sl⟩) (hs : us.length ≤ 100) (hv : Vals vs us) : ∀ H, SqT K H a vs := fun H =>
  .inr ⟨_, _, _, l, rfl, rfl, by rw [sizeLine_eq, List.size_toArray]; omega, hv⟩
theorem all_mk {l : PySem.W.OpenLaw} {w : World} {K : PySem.W.Frag} {h : Heap} {mg : Str → Option Value} {fa f aw0 aw1 aw2 : Addr} (X : K.In h) (G : h.Ns mainGlobals mg) (hfa : mg "law" = some (.ref fa))
    {od an odw0 odw1 odw2 : Option Addr} {sl slw0 slw1 slw2 : Array (Option Value)} {oc kV dc pm cd ct : Value} {nw0 nw1 nw2 : Nat} {t0_0 t0_1 t0_2 t1_0 t1_1 t1_2 t1_3 t2_0 t2_1 : Tok}
    (F1 : Fnd K "parts_of" sParts)
    (F2 : Fnd K "nodes" sNodes)
    (F3 : Fnd K "free_in" sFreeIn)
    (F4 : Fnd K "_law_draw" sDraw)
    (F5 : Fnd K "_law_state" sState)
    (F6 : Fnd K "_law_name" sNm)
    (F7 : Fnd K "_law_form_name" sFn)
    (F8 : Fnd K "_law_pool" sPool)
    (F9 : Fnd K "_law_leaf" sLeaf)
    (F10 : Fnd K "_law_term" sGen)
    (F11 : Fnd K "_law_tall" sTall)
    (F12 : Fnd K "_law_any_term" sAny)
    (F13 : Fnd K "_law_told" sTold)
    (F14 : Fnd K "_law_any_told" sAnyT)
    (F15 : Fnd K "_law_inner" sInner)
    (F16 : Fnd K "_law_walk" sWalk)
    (F17 : Fnd K "_law_right" sRight)
    (a0 : PySem.W.nsIn K mainGlobals "law" = some (some (.ref f))) (l0 : K.lookup f = some ⟨oc, od, .func (PySem.W.fnOf "law" "law" (defArgs sLaw) (defBody sLaw) (defScope sLaw) .none kV dc pm an cd ct), sl⟩) (c0 : PySem.W.codeIn K cd "law" = true) (k0 : PySem.W.keepIn K (.ref f) = true)
    (gw0 : PySem.W.nsIn K mainGlobals "ARGS_WORDS" = some (some (.ref aw0)))
    (gl0 : K.lookup aw0 = some ⟨.type "tuple", odw0, .seq #[.str "form" t0_0, .str "call" t0_1, .str "atom" t0_2] nw0, slw0⟩)
    (gw1 : PySem.W.nsIn K mainGlobals "PAIR_WORDS" = some (some (.ref aw1)))
    (gl1 : K.lookup aw1 = some ⟨.type "tuple", odw1, .seq #[.str "same" t1_0, .str "and" t1_1, .str "or" t1_2, .str "if" t1_3] nw1, slw1⟩)
    (gw2 : PySem.W.nsIn K mainGlobals "BIND_WORDS" = some (some (.ref aw2)))
    (gl2 : K.lookup aw2 = some ⟨.type "tuple", odw2, .seq #[.str "all" t2_0, .str "some" t2_1] nw2, slw2⟩)
    (z1 : PySem.W.nsIn K mainGlobals "len" = some none)
    (z2 : PySem.W.nsIn K mainGlobals "range" = some none)
    (z3 : PySem.W.nsIn K mainGlobals "tuple" = some none)
    (z4 : PySem.W.nsIn K mainGlobals "set" = some none)
    (z5 : PySem.W.nsIn K mainGlobals "sorted" = some none)
    (z6 : PySem.W.nsIn K mainGlobals "sum" = some none)
    (z7 : PySem.W.nsIn K mainGlobals "isinstance" = some none)
    (z8 : PySem.W.nsIn K mainGlobals "int" = some none)
    (z9 : PySem.W.nsIn K mainGlobals "bool" = some none)
    (z10 : PySem.W.nsIn K mainGlobals "list" = some none) :
    ∃ fd : FuncData, (∀ (s : Shared) (v : Value), BindsTo s fd ⟨[v], []⟩ [("_law_script", v)]) ∧ ∀ base : Heap, K.In base → base.Ns mainGlobals mg → FnOk l.prog w K mg base CX0 74 fa fd ["_law_script"] (spLaw K) := by
  have e := hfa.symm.trans (PySem.W.mg_of X G a0)
  cases e
  have F := fun_mk (st := sLaw) l0 c0 k0
  have T : Txt K mg := ⟨PySem.W.mg_none_of X G z1, PySem.W.mg_none_of X G z2⟩
  have T2 : Txt2 K mg := ⟨T, ⟨_, PySem.W.mg_of X G gw0, words_mk (us := [_, _, _]) gl0 (by show 3 ≤ 100; decide) (.cons ⟨_, rfl⟩ (.cons ⟨_, rfl⟩ (.cons ⟨_, rfl⟩ .nil)))⟩, ⟨_, PySem.W.mg_of X G gw1, words_mk (us := [_, _, _, _]) gl1 (by show 4 ≤ 100; decide) (.cons ⟨_, rfl⟩ (.cons ⟨_, rfl⟩ (.cons ⟨_, rfl⟩ (.cons ⟨_, rfl⟩ .nil))))⟩, ⟨_, PySem.W.mg_of X G gw2, words_mk (us := [_, _]) gl2 (by show 2 ≤ 100; decide) (.cons ⟨_, rfl⟩ (.cons ⟨_, rfl⟩ .nil))⟩, PySem.W.mg_none_of X G z3, PySem.W.mg_none_of X G z4, PySem.W.mg_none_of X G z5, PySem.W.mg_none_of X G z6, PySem.W.mg_none_of X G z7, PySem.W.mg_none_of X G z8, PySem.W.mg_none_of X G z9, PySem.W.mg_none_of X G z10⟩
  obtain ⟨f1, fd1, D1⟩ := Fnd.def (ps := ["thing"]) X G F1 fun _ _ _ _ _ _ us hl => match us, hl with | [_], _ => rfl
  obtain ⟨f2, fd2, D2⟩ := Fnd.def (ps := ["thing"]) X G F2 fun _ _ _ _ _ _ us hl => match us, hl with | [_], _ => rfl
  obtain ⟨f3, fd3, D3⟩ := Fnd.def (ps := ["thing"]) X G F3 fun _ _ _ _ _ _ us hl => match us, hl with | [_], _ => rfl
  obtain ⟨f4, fd4, D4⟩ := Fnd.def (ps := ["_law_state_here", "_law_many"]) X G F4 fun _ _ _ _ _ _ us hl => match us, hl with | [_, _], _ => rfl
  obtain ⟨f5, fd5, D5⟩ := Fnd.def (ps := ["_law_script", "_law_k"]) X G F5 fun _ _ _ _ _ _ us hl => match us, hl with | [_, _], _ => rfl
  obtain ⟨f6, fd6, D6⟩ := Fnd.def (ps := ["_law_state_here"]) X G F6 fun _ _ _ _ _ _ us hl => match us, hl with | [_], _ => rfl
  obtain ⟨f7, fd7, D7⟩ := Fnd.def (ps := ["_law_state_here"]) X G F7 fun _ _ _ _ _ _ us hl => match us, hl with | [_], _ => rfl
  obtain ⟨f8, fd8, D8⟩ := Fnd.def (ps := ["_law_state_here"]) X G F8 fun _ _ _ _ _ _ us hl => match us, hl with | [_], _ => rfl
  obtain ⟨f9, fd9, D9⟩ := Fnd.def (ps := ["_law_state_here", "_law_pool_here", "_law_bounds"]) X G F9 fun _ _ _ _ _ _ us hl => match us, hl with | [_, _, _], _ => rfl
  obtain ⟨f10, fd10, D10⟩ := Fnd.def (ps := ["_law_state_here", "_law_pool_here", "_law_deep", "_law_bounds"]) X G F10 fun _ _ _ _ _ _ us hl => match us, hl with | [_, _, _, _], _ => rfl
  obtain ⟨f11, fd11, D11⟩ := Fnd.def (ps := ["_law_state_here", "_law_pool_here", "_law_t", "_law_many"]) X G F11 fun _ _ _ _ _ _ us hl => match us, hl with | [_, _, _, _], _ => rfl
  obtain ⟨f12, fd12, D12⟩ := Fnd.def (ps := ["_law_state_here", "_law_pool_here", "_law_bounds"]) X G F12 fun _ _ _ _ _ _ us hl => match us, hl with | [_, _, _], _ => rfl
  obtain ⟨f13, fd13, D13⟩ := Fnd.def (ps := ["_law_state_here", "_law_pool_here", "_law_deep", "_law_bounds"]) X G F13 fun _ _ _ _ _ _ us hl => match us, hl with | [_, _, _, _], _ => rfl
  obtain ⟨f14, fd14, D14⟩ := Fnd.def (ps := ["_law_state_here", "_law_pool_here", "_law_deep", "_law_bounds"]) X G F14 fun _ _ _ _ _ _ us hl => match us, hl with | [_, _, _, _], _ => rfl
  obtain ⟨f15, fd15, D15⟩ := Fnd.def (ps := ["_law_thing"]) X G F15 fun _ _ _ _ _ _ us hl => match us, hl with | [_], _ => rfl
  obtain ⟨f16, fd16, D16⟩ := Fnd.def (ps := ["_law_thing", "_law_found"]) X G F16 fun _ _ _ _ _ _ us hl => match us, hl with | [_, _], _ => rfl
  obtain ⟨f17, fd17, D17⟩ := Fnd.def (ps := ["_law_thing"]) X G F17 fun _ _ _ _ _ _ us hl => match us, hl with | [_], _ => rfl
  refine ⟨PySem.W.fnOf "law" "law" (defArgs sLaw) (defBody sLaw) (defScope sLaw) .none kV dc pm an cd ct, fun s v => .of_eq rfl, fun base _ _ => ?_⟩
  exact ok_law F T2 D5 D8 D12 D14 D4 D17 (ok_pool D8.F T2 D4 D6 D7) (FnOk.ex fun _ => ok_any D12.F T2 D4 D9 D10 D11)
    (FnOk.ex fun _ => ok_anyT D14.F T2 D4 D13 (ok_toldLt D13 T2 D4 D10 D9)) (ok_right D17.F T2 D16 D15 D2 D3 D1)
theorem walk {l : PySem.W.OpenLaw} {q : Program} {loose : List Str} {XP : (Str → Option Value) → Heap → Prop} {YP : World → Heap → Prop} {d : DefRec} {K : Params → PySem.W.Frag} (hn : l.most = some 63) (hdf : d.params.defaults = [])
    (hY : ∀ (w : World) (h : Heap), YP w h → (K w.params).In h)
    (F : ∀ (w : World) (mg : Str → Option Value) (fa : Addr) (h : Heap), (K w.params).In h → h.Ns mainGlobals mg → mg d.name = some (.ref fa) →
      ∃ fd : FuncData, (∀ (s : Shared) (u : Value), BindsTo s fd ⟨[u], []⟩ [("_law_script", u)]) ∧ ∀ base : Heap, (K w.params).In base → base.Ns mainGlobals mg → FnOk l.prog w (K w.params) mg base CX0 74 fa fd ["_law_script"] (spLaw (K w.params))) :
    PySem.W.WalkO q loose XP YP l.row.toRowW d [] (fun f vs => PySem.call f vs) :=
  L2.walk_of (n := 63) (k := 74) (x := "_law_script") (CX := fun _ => CX0) (sp := fun w => spLaw (K w.params)) hn (by decide) hdf ⟨rfl, by decide, by decide⟩ hY F (fun _ _ a ns hl _ hS => ⟨a, ns, rfl, hS, hl, fun _ => rfl⟩) fun _ _ _ _ _ z => z
end K04
end
section
set_option Elab.async false
set_option linter.all false
open PySem PySem.W PyProof.Rows
set_option maxRecDepth 100000 in
set_option maxHeartbeats 0 in
theorem PySem.Challenge.cw_tacticwright_k04_nodes_and_free_holds : PySem.Challenge.rw_tacticwright_k04_nodes_and_free.Holds := by
  w_on; o_law; k_head; (case hw => w_witness2)
  k_fill
  refine K04.walk (l := PySem.Challenge.rw_tacticwright_k04_nodes_and_free) rfl rfl (fun w h Y => PySem.W.kIn_of Y) ?F
  case F =>
    intro w mg fa h KX G hmg
    refine' K04.all_mk KX G hmg (K04.fnd_mk ?a1 ?l1 ?c1 ?k1) (K04.fnd_mk ?a2 ?l2 ?c2 ?k2) (K04.fnd_mk ?a3 ?l3 ?c3 ?k3) (K04.fnd_mk ?a4 ?l4 ?c4 ?k4) (K04.fnd_mk ?a5 ?l5 ?c5 ?k5) (K04.fnd_mk ?a6 ?l6 ?c6 ?k6) (K04.fnd_mk ?a7 ?l7 ?c7 ?k7) (K04.fnd_mk ?a8 ?l8 ?c8 ?k8) (K04.fnd_mk ?a9 ?l9 ?c9 ?k9) (K04.fnd_mk ?a10 ?l10 ?c10 ?k10) (K04.fnd_mk ?a11 ?l11 ?c11 ?k11) (K04.fnd_mk ?a12 ?l12 ?c12 ?k12) (K04.fnd_mk ?a13 ?l13 ?c13 ?k13) (K04.fnd_mk ?a14 ?l14 ?c14 ?k14) (K04.fnd_mk ?a15 ?l15 ?c15 ?k15) (K04.fnd_mk ?a16 ?l16 ?c16 ?k16) (K04.fnd_mk ?a17 ?l17 ?c17 ?k17) ?a0 ?l0 ?c0 ?k0 ?gw0 ?gl0 ?gw1 ?gl1 ?gw2 ?gl2 ?z1 ?z2 ?z3 ?z4 ?z5 ?z6 ?z7 ?z8 ?z9 ?z10
    (case a1 => k_is); (case l1 => k_is); (case c1 => k_is); (case k1 => k_is)
    (case a2 => k_is); (case l2 => k_is); (case c2 => k_is); (case k2 => k_is)
    (case a3 => k_is); (case l3 => k_is); (case c3 => k_is); (case k3 => k_is)
    (case a4 => k_is); (case l4 => k_is); (case c4 => k_is); (case k4 => k_is)
    (case a5 => k_is); (case l5 => k_is); (case c5 => k_is); (case k5 => k_is)
    (case a6 => k_is); (case l6 => k_is); (case c6 => k_is); (case k6 => k_is)
    (case a7 => k_is); (case l7 => k_is); (case c7 => k_is); (case k7 => k_is)
    (case a8 => k_is); (case l8 => k_is); (case c8 => k_is); (case k8 => k_is)
    (case a9 => k_is); (case l9 => k_is); (case c9 => k_is); (case k9 => k_is)
    (case a10 => k_is); (case l10 => k_is); (case c10 => k_is); (case k10 => k_is)
    (case a11 => k_is); (case l11 => k_is); (case c11 => k_is); (case k11 => k_is)
    (case a12 => k_is); (case l12 => k_is); (case c12 => k_is); (case k12 => k_is)
    (case a13 => k_is); (case l13 => k_is); (case c13 => k_is); (case k13 => k_is)
    (case a14 => k_is); (case l14 => k_is); (case c14 => k_is); (case k14 => k_is)
    (case a15 => k_is); (case l15 => k_is); (case c15 => k_is); (case k15 => k_is)
    (case a16 => k_is); (case l16 => k_is); (case c16 => k_is); (case k16 => k_is)
    (case a17 => k_is); (case l17 => k_is); (case c17 => k_is); (case k17 => k_is)
    (case a0 => k_is); (case l0 => k_is); (case c0 => k_is); (case k0 => k_is)
    (case gw0 => k_is); (case gl0 => k_is); (case gw1 => k_is); (case gl1 => k_is); (case gw2 => k_is); (case gl2 => k_is)
    (case z1 => k_is); (case z2 => k_is); (case z3 => k_is); (case z4 => k_is); (case z5 => k_is); (case z6 => k_is); (case z7 => k_is); (case z8 => k_is); (case z9 => k_is); (case z10 => k_is)
#print axioms PySem.Challenge.cw_tacticwright_k04_nodes_and_free_holds
end
