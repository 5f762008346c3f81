import PyProof.Rows.All
import Wide.All
import OpenK.AllK
import Wide.FinOn
import Lean
import PyProof.EqAt
import PyProof.EqKinds
import PyProof.TupleCall
import PySem.Challenge.RW_sumtimes_k14_read
import KE.KIntText
import KE.KIsAll
import PyProof.NsDelKeeps
import PyProof.ExcBaseAll.ValueError
import PyProof.ExcArgsOwn
import PyProof.StrOps2
import PyProof.StrReplace2

section
set_option Elab.async false
set_option linter.all false
set_option maxRecDepth 100000
/-! THE HAND LAYER, for ints, bools, texts, own classes, LISTS and tuples (index, slices, in, append, pop ..), calls, loops. Paste it whole ahead of your own text; what your proof does not reach may be deleted. -/
namespace L2
open PySem PySem.Spec PyProof.Rows

/-- a key: an int or a str -/
abbrev Key := Sum Int Str
def keyIs : Key → Value → Bool
  | .inl k, v => Value.isInt k v
  | .inr x, v => Value.isStrOf x v
def keyH (w : World) : Key → Int
  | .inl k => hashInt k
  | .inr x => hashStr w x
theorem keyIs_shape : ∀ {k : Key} {v : Value}, keyIs k v = true → (∃ i t, k = Sum.inl i ∧ v = Value.int i t) ∨ (∃ x t, k = Sum.inr x ∧ v = Value.str x t)
  | .inl i, v, h => by
    obtain ⟨t, e⟩ := Value.isInt_shape (k := i) (v := v) h
    exact .inl ⟨i, t, rfl, e⟩
  | .inr x, v, h => by
    obtain ⟨t, e⟩ := Value.isStrOf_shape (x := x) (v := v) h
    exact .inr ⟨x, t, rfl, e⟩
theorem key_ll (a b : Int) : decide ((Sum.inl a : Key) = Sum.inl b) = (a == b) := by
  by_cases e : a = b
  · subst e; simp
  · have h : ¬ (Sum.inl a : Key) = Sum.inl b := fun q => e (Sum.inl.inj q)
    rw [decide_eq_false h]
    exact (beq_eq_false_iff_ne.mpr e).symm
theorem key_rr (a b : Str) : decide ((Sum.inr a : Key) = Sum.inr b) = decide (a = b) := by
  by_cases e : a = b
  · subst e; simp
  · have h : ¬ (Sum.inr a : Key) = Sum.inr b := fun q => e (Sum.inr.inj q)
    rw [decide_eq_false h, decide_eq_false e]
theorem key_lr (a : Int) (b : Str) : decide ((Sum.inl a : Key) = Sum.inr b) = false := decide_eq_false (fun q => nomatch q)
theorem key_rl (a : Str) (b : Int) : decide ((Sum.inr a : Key) = Sum.inl b) = false := decide_eq_false (fun q => nomatch q)

def mixKind (prog : Program) (w : World) : PySem.KeyKind prog w Key where
  is := keyIs
  hash := keyH w
  inj := fun v a b ha hb => by
    rcases keyIs_shape ha with ⟨i, t, rfl, rfl⟩ | ⟨x, t, rfl, rfl⟩
    · rcases keyIs_shape hb with ⟨j, u, rfl, e⟩ | ⟨y, u, rfl, e⟩
      · injection e with e1 _; rw [e1]
      · exact nomatch e
    · rcases keyIs_shape hb with ⟨j, u, rfl, e⟩ | ⟨y, u, rfl, e⟩
      · exact nomatch e
      · injection e with e1 _; rw [e1]
  byValue := fun k v h => by
    rcases keyIs_shape h with ⟨i, t, rfl, rfl⟩ | ⟨x, t, rfl, rfl⟩ <;> rfl
  pyHash := fun hv h => by
    rcases keyIs_shape hv with ⟨i, t, rfl, rfl⟩ | ⟨x, t, rfl, rfl⟩
    · exact wpAny_pyHash_int h
    · exact wpAny_pyHash_str h
  eqBool := fun hu hv h => by
    rcases keyIs_shape hu with ⟨i, t, rfl, rfl⟩ | ⟨x, t, rfl, rfl⟩
    · rcases keyIs_shape hv with ⟨j, u, rfl, rfl⟩ | ⟨y, u, rfl, rfl⟩
      · rw [key_ll] at h; exact wpAny_eqBool_int h
      · rw [key_lr] at h; exact SeqAt.EqAt.int_str i t y u _ _ _ _ h
    · rcases keyIs_shape hv with ⟨j, u, rfl, rfl⟩ | ⟨y, u, rfl, rfl⟩
      · rw [key_rl] at h; exact SeqAt.EqAt.str_int x t j u _ _ _ _ h
      · rw [key_rr] at h; exact wpAny_eqBool_str h
  «strs» := fun k x t v h => by
    rcases keyIs_shape h with ⟨i, u, rfl, e⟩ | ⟨y, u, rfl, e⟩
    · exact nomatch e
    · injection e with e1 _
      subst e1
      cases v <;> rfl

end L2

namespace L2
open PySem PySem.Spec PyProof.Rows

/-- a value, without the heap -/
inductive V where
  | non | bl (b : Bool) | int (i : Int) | str (x : Str) | byt (b : Array UInt8) | flt (b : UInt64) | ref (a : Addr) | ty (n : String)
  deriving DecidableEq

def RelV : V → Value → Prop
  | .non, u => u = Value.none
  | .bl b, u => u = Value.bool b
  | .int i, u => ∃ t, u = Value.int i t
  | .str x, u => ∃ t, u = Value.str x t
  | .byt b, u => ∃ t, u = Value.bytes b t
  | .flt b, u => ∃ t, u = Value.float b t
  | .ref a, u => u = Value.ref a
  | .ty n, u => u = Value.type n

abbrev Vals : List V → List Value → Prop := Paired RelV
theorem Vals.length {xs : List V} {us : List Value} (r : Vals xs us) : xs.length = us.length := Paired.length r
theorem Vals.get : ∀ {xs : List V} {us : List Value} {i : Nat} {x : V}, Vals xs us → xs[i]? = some x → ∃ u, us[i]? = some u ∧ RelV x u
  | _, _, _, _, .nil, e => by simp at e
  | _, _, 0, _, .cons r _, e => by simp at e; subst e; exact ⟨_, rfl, r⟩
  | _, _, i + 1, x, .cons _ t, e => by
    obtain ⟨u, h1, h2⟩ := Vals.get (i := i) (x := x) t (by simpa using e)
    exact ⟨u, by simpa using h1, h2⟩
theorem Vals.set {x : V} {u : Value} (r : RelV x u) : ∀ {xs : List V} {us : List Value} (i : Nat), Vals xs us → Vals (xs.set i x) (us.set i u)
  | _, _, _, .nil => .nil
  | _, _, 0, .cons _ t => .cons r t
  | _, _, i + 1, .cons q t => .cons q (Vals.set r i t)
theorem Vals.append : ∀ {xs ys : List V} {us ws : List Value}, Vals xs us → Vals ys ws → Vals (xs ++ ys) (us ++ ws)
  | _, _, _, _, .nil, s => s
  | _, _, _, _, .cons r t, s => .cons r (Vals.append t s)
theorem Vals.take : ∀ {xs : List V} {us : List Value} (n : Nat), Vals xs us → Vals (xs.take n) (us.take n)
  | _, _, 0, _ => .nil
  | _, _, _ + 1, .nil => .nil
  | _, _, n + 1, .cons r t => .cons r (Vals.take n t)
theorem Vals.drop : ∀ {xs : List V} {us : List Value} (n : Nat), Vals xs us → Vals (xs.drop n) (us.drop n)
  | _, _, 0, r => r
  | _, _, _ + 1, .nil => .nil
  | _, _, n + 1, .cons _ t => Vals.drop n t
def RelO : Option V → Option Value → Prop
  | some v, some u => RelV v u
  | none, none => True
  | _, _ => False
def KV {κ : Type} : List (κ × V) → List (κ × Value) → Prop := Paired fun (p : κ × V) (q : κ × Value) => p.1 = q.1 ∧ RelV p.2 q.2

/-- a key of a dict (00_mix): an int or a text -/
def kV : Key → V
  | .inl i => .int i
  | .inr x => .str x

/-- what stands at a tracked address -/
inductive HO where
  /-- a list -/
  | lst (xs : List V)
  /-- a tuple (never changes) -/
  | tup (xs : List V)
  /-- a dict whose keys are ints and texts; one whose keys are tuples of ints and texts (the empty one is both) -/
  | dK (kvs : List (Key × V)) | dT (kvs : List (List Key × V))
  /-- a set of ints: its members, its size -/
  | set (S : Int → Bool) (n : Nat)
  /-- an instance of the class at C, its dict at dx, its attributes -/
  | ins (C dx : Addr) (fs : List (Str × V))
  /-- the dict of the instance at x -/
  | own (x : Addr)
  /-- the dict of an exception -/
  | xd (fs : List (Str × V))
  /-- a bound method, f of x -/
  | met (f x : Addr)
  /-- a range object lo, lo + 1, .. below hi -/
  | rng (lo hi : Int)
  /-- a thing that is known to the object (the script; a dict while a loop walks it): read, never written while it is so -/
  | frz (o : Obj) (u : HO)
  /-- a code object's table -/
  | tbl (ps : Array Value)
  /-- any other thing, by what is true of its one object (a def of one's own: SetO a S n := HO.ext fun h => ..) -/
  | ext (φ : Heap → Prop)

abbrev Hp := Addr → Option HO
def upd (H : Hp) (a : Addr) (o : HO) : Hp := fun b => if b = a then some o else H b
theorem upd_same {H : Hp} {a : Addr} {o : HO} : upd H a o a = some o := by unfold upd; rw [if_pos rfl]
theorem upd_ne {H : Hp} {a b : Addr} {o : HO} (h : b ≠ a) : upd H a o b = H b := by unfold upd; rw [if_neg h]
theorem ne_of_none {H : Hp} {a b : Addr} {o : HO} (h : H a = some o) (h' : H b = none) : a ≠ b := by
  intro e; subst e; rw [h] at h'; cases h'

section
variable (P : Program) (w : World)
def ObjOk (H : Hp) (h : Heap) (a : Addr) : HO → Prop
  | .lst xs => xs.length ≤ sizeLine ∧ ∃ (its : List Value) (n : Nat), Vals xs its ∧ h.get? a = some { cls := .type "list", data := .seq its.toArray n }
  | .tup xs => xs.length ≤ sizeLine ∧ ∃ its : List Value, Vals xs its ∧ IsTup h a its.toArray
  | .dK kvs => kvs.length ≤ sizeLine ∧ (a == sysModules) = false ∧ ∃ vs, KV kvs vs ∧ h.DictOf (mixKind P w) a vs
  | .dT kvs => kvs.length ≤ sizeLine ∧ (a == sysModules) = false ∧ ∃ xs : List (List Key × Addr × Value),
      Paired (fun (p : List Key × V) (q : List Key × Addr × Value) => p.1 = q.1 ∧ H q.2.1 = some (.tup (p.1.map kV)) ∧ RelV p.2 q.2.2) kvs xs ∧
      ∃ o es ep, h.get? a = some o ∧ o.ExactDict ∧ o.data = .dict es ep ∧ es.toList = xs.map (entryOfKey (tupleKind (mixKind P w))) ∧ (xs.map (·.1)).Nodup
  | .set S n => h.SetOf (intKind P w) a S n
  | .ins C dx fs => H dx = some (.own a) ∧ fs.length ≤ 1000 ∧ dx ≠ a ∧ h.get? a = some (PySem.W.instObj C dx) ∧
      ∃ mA, h.Ns1 dx mA ∧ (∀ f, RelO (fs.lookup f) (mA f)) ∧ PySem.Within mA (fs.map (·.1))
  | .own _ => ∃ o, h.get? a = some o
  | .xd fs => ∃ mA, h.Ns1 a mA ∧ ∀ f, RelO (fs.lookup f) (mA f)
  | .rng lo hi => ∃ t u v, h.get? a = some { cls := .type "range", data := .fields #[.int lo t, .int hi u, .int 1 v] }
  | .frz o u => h.get? a = some o ∧ ObjOk H h a u
  | .tbl ps => h.get? a = some { cls := .none, data := .fields ps }
  | .met f x => h.get? a = some (PySem.W.methodObj (.ref f) (.ref x))
  | .ext φ => φ h ∧ (∃ o, h.get? a = some o) ∧ ∀ h1 h2 : Heap, φ h1 → (∀ o, h1.get? a = some o → h2.get? a = some o) → φ h2
/-- the abstract heap is held -/
def HOk (H : Hp) (h : Heap) : Prop := ∀ a o, H a = some o → ObjOk P w H h a o
end

section
variable {P : Program} {w : World} {H H' : Hp} {h h' : Heap} {a : Addr} {o : HO}
theorem ObjOk.lt (x : ObjOk P w H h a o) : a < h.objs.size := by
  cases o with
  | lst xs => obtain ⟨_, _, _, _, e⟩ := x; exact Heap.lt_size e
  | tup xs => obtain ⟨_, _, _, p⟩ := x; exact p.lt
  | dK kvs => obtain ⟨_, _, _, _, o, _, _, e, _⟩ := x; exact Heap.lt_size e
  | dT kvs => obtain ⟨_, _, _, _, o, _, _, e, _⟩ := x; exact Heap.lt_size e
  | set S n => obtain ⟨o, _, _, _, e, _⟩ := x; exact Heap.lt_size e
  | ins C dx fs => obtain ⟨_, _, _, e, _⟩ := x; exact Heap.lt_size e
  | own y => obtain ⟨_, e⟩ := x; exact Heap.lt_size e
  | xd fs => obtain ⟨_, ⟨_, _, _, e, _⟩, _⟩ := x; exact Heap.lt_size e
  | rng lo hi => obtain ⟨_, _, _, e⟩ := x; exact Heap.lt_size e
  | frz ob u => obtain ⟨e, _⟩ := x; exact Heap.lt_size e
  | tbl ps => exact Heap.lt_size (show h.get? a = some _ from x)
  | met f y => exact Heap.lt_size (show h.get? a = some _ from x)
  | ext φ => obtain ⟨_, ⟨_, e⟩, _⟩ := x; exact Heap.lt_size e
theorem Paired.mapP {α β : Type} {F G : α → β → Prop} : ∀ {l₁ : List α} {l₂ : List β}, Paired F l₁ l₂ → (∀ a b, F a b → G a b) → Paired G l₁ l₂
  | _, _, .nil, _ => .nil
  | _, _, .cons r t, f => .cons (f _ _ r) (Paired.mapP t f)
/-- what an object's description leans on: its own object, its own dict, the tuples -/
theorem ObjOk.stay (x : ObjOk P w H h a o) (k : ∀ b u, (b = a ∨ H b = some (.own a)) → h.get? b = some u → h'.get? b = some u)
    (ho : ∀ b, H b = some (.own a) → H' b = some (.own a)) (ht : ∀ b xs, H b = some (.tup xs) → H' b = some (.tup xs)) : ObjOk P w H' h' a o := by
  induction o with
  | lst xs => obtain ⟨z, its, n, r, e⟩ := x; exact ⟨z, its, n, r, k _ _ (.inl rfl) e⟩
  | tup xs => obtain ⟨z, its, r, ob, e, c⟩ := x; exact ⟨z, its, r, ob, k _ _ (.inl rfl) e, c⟩
  | dK kvs => obtain ⟨z, y, vs, r, ob, es, ep, e, c⟩ := x; exact ⟨z, y, vs, r, ob, es, ep, k _ _ (.inl rfl) e, c⟩
  | dT kvs =>
    obtain ⟨z, y, xs, r, ob, es, ep, e, c⟩ := x
    exact ⟨z, y, xs, Paired.mapP r fun p q z => ⟨z.1, ht _ _ z.2.1, z.2.2⟩, ob, es, ep, k _ _ (.inl rfl) e, c⟩
  | set S n => obtain ⟨ob, es, ep, t, e, c⟩ := x; exact ⟨ob, es, ep, t, k _ _ (.inl rfl) e, c⟩
  | ins C dx fs =>
    obtain ⟨d, z, ne, e, mA, ⟨od, es, ep, e2, c⟩, r⟩ := x
    exact ⟨ho _ d, z, ne, k _ _ (.inl rfl) e, mA, ⟨od, es, ep, k _ _ (.inr d) e2, c⟩, r⟩
  | own y => obtain ⟨ob, e⟩ := x; exact ⟨ob, k _ _ (.inl rfl) e⟩
  | xd fs => obtain ⟨mA, ⟨od, es, ep, e, c⟩, r⟩ := x; exact ⟨mA, ⟨od, es, ep, k _ _ (.inl rfl) e, c⟩, r⟩
  | rng lo hi => obtain ⟨t, u, v, e⟩ := x; exact ⟨t, u, v, k _ _ (.inl rfl) e⟩
  | frz ob u ih => obtain ⟨e, q⟩ := x; exact ⟨k _ _ (.inl rfl) e, ih q⟩
  | tbl ps =>
    have e : h.get? a = some { cls := .none, data := .fields ps } := x
    show h'.get? a = some { cls := .none, data := .fields ps }
    exact k a _ (.inl rfl) e
  | met f y =>
    have e : h.get? a = some (PySem.W.methodObj (.ref f) (.ref y)) := x
    show h'.get? a = some (PySem.W.methodObj (.ref f) (.ref y))
    exact k a _ (.inl rfl) e
  | ext φ => obtain ⟨p, ⟨o, e⟩, st⟩ := x; exact ⟨st _ _ p fun o q => k _ _ (.inl rfl) q, ⟨o, k _ _ (.inl rfl) e⟩, st⟩
theorem HOk.lt (x : HOk P w H h) (e : H a = some o) : a < h.objs.size := (x a o e).lt
theorem HOk.fresh (x : HOk P w H h) (e : h.objs.size ≤ a) : H a = none := by
  cases q : H a with
  | none => rfl
  | some u => exact absurd (Nat.lt_of_lt_of_le (x.lt q) e) (Nat.lt_irrefl _)
/-- every object of the heap is kept -/
theorem HOk.kept (x : HOk P w H h) (k : ∀ b u, h.get? b = some u → h'.get? b = some u) : HOk P w H h' := fun a o e =>
  (x a o e).stay (fun b u _ q => k b u q) (fun _ q => q) fun _ _ q => q
/-- a new object is laid and tracked -/
theorem HOk.laid (x : HOk P w H h) (k : ∀ b u, h.get? b = some u → h'.get? b = some u) (hp : h.objs.size ≤ a) (new : ObjOk P w (upd H a o) h' a o) : HOk P w (upd H a o) h' := fun b u e => by
  have hn := x.fresh hp
  by_cases hb : b = a
  · subst hb; rw [upd_same] at e; cases e; exact new
  · rw [upd_ne hb] at e
    exact (x b u e).stay (fun c v _ q => k c v q) (fun c q => by rw [upd_ne (ne_of_none q hn)]; exact q) fun c xs q => by rw [upd_ne (ne_of_none q hn)]; exact q
end

/-- what may be read as u: it is u, or a known u -/
def Rd (H : Hp) (a : Addr) (u : HO) : Prop := H a = some u ∨ ∃ o, H a = some (.frz o u)
theorem Rd.of {H : Hp} {a : Addr} {u : HO} (h : H a = some u) : Rd H a u := .inl h
theorem Rd.ok {P : Program} {w : World} {H : Hp} {h : Heap} {a : Addr} {u : HO} (r : Rd H a u) (x : HOk P w H h) : ObjOk P w H h a u := by
  rcases r with r | ⟨o, r⟩
  · exact x a u r
  · obtain ⟨_, q⟩ := x a _ r
    exact q
/-- what may be written -/
def Mut : Option HO → Prop
  | some (.lst _) => True
  | some (.dK _) => True
  | some (.dT _) => True
  | some (.set _ _) => True
  | some (.ins _ _ _) => True
  | some (.ext _) => True
  | _ => False
section
variable {P : Program} {w : World} {H : Hp} {h h' : Heap} {x e : Addr} {o' : HO}
/-- the object at e is changed: x itself, or the dict of the instance x -/
theorem HOk.write (ok : HOk P w H h) (mu : Mut (H x)) (he : e = x ∨ H e = some (.own x)) (k : ∀ b u, b ≠ e → h.get? b = some u → h'.get? b = some u) (heo : ∃ u, h'.get? e = some u)
    (new : ObjOk P w (upd H x o') h' x o') : HOk P w (upd H x o') h' := fun b u q => by
  have nown : ∀ c y, H c = some (.own y) → c ≠ x := fun c y r z => by subst z; rw [r] at mu; exact mu
  have ntup : ∀ c xs, H c = some (.tup xs) → c ≠ x := fun c xs r z => by subst z; rw [r] at mu; exact mu
  by_cases hb : b = x
  · subst hb; rw [upd_same] at q; cases q; exact new
  · rw [upd_ne hb] at q
    by_cases hbe : b = e
    · have q' : H b = some (.own x) := by
        rcases he with z | z
        · exact absurd (hbe.trans z) hb
        · rw [hbe]; exact z
      rw [q] at q'; cases q'
      obtain ⟨v, hv⟩ := heo
      exact ⟨v, by rw [hbe]; exact hv⟩
    · refine (ok b u q).stay (fun c v hc r => k c v ?_ r) (fun c r => by rw [upd_ne (nown c b r)]; exact r) fun c xs r => by rw [upd_ne (ntup c xs r)]; exact r
      rcases hc with rfl | hc
      · exact hbe
      · rintro rfl
        rcases he with z | z
        · exact nown c b hc z
        · rw [hc] at z; cases z; exact hb rfl
end

/-! ### kept unless tracked; of the frames at fs (the callers') the slots may change (an exception that passes writes there); of the records at ex (iterators) nothing is said -/
structure Un (fs ex : List Addr) (H H' : Hp) (h h' : Heap) : Prop where
  keep : ∀ b o, h.get? b = some o → H b = none → b ∉ fs → b ∉ ex → h'.get? b = some o
  slot : ∀ b o, h.get? b = some o → H b = none → b ∈ fs → b ∉ ex → ∃ sl, h'.get? b = some { o with slots := sl }
  free : ∀ b o, h.get? b = some o → H b = none → b ∉ ex → H' b = none
  there : ∀ b o, h.get? b = some o → b ∉ ex → ∃ o', h'.get? b = some o'
  tups : ∀ b xs, H b = some (.tup xs) → H' b = some (.tup xs)
  frzs : ∀ b o u, H b = some (.frz o u) → H' b = some (.frz o u)
  tbls : ∀ b ps, H b = some (.tbl ps) → ∃ more, H' b = some (.tbl (ps ++ more))
section
variable {fs fs' ex ex' : List Addr} {H H1 H2 : Hp} {h h1 h2 h' : Heap} {a x e : Addr} {o : HO}
theorem Un.any (u : Un fs ex H H1 h h1) {b : Addr} {ob : Obj} (q : h.get? b = some ob) (n : H b = none) (hx : b ∉ ex) : ∃ sl, h1.get? b = some { ob with slots := sl } := by
  by_cases hb : b ∈ fs
  · exact u.slot b ob q n hb hx
  · exact ⟨ob.slots, u.keep b ob q n hb hx⟩
theorem Un.trans (a : Un fs ex H H1 h h1) (b : Un fs ex H1 H2 h1 h2) : Un fs ex H H2 h h2 where
  keep := fun c ob q n hc hx => b.keep c ob (a.keep c ob q n hc hx) (a.free c ob q n hx) hc hx
  slot := fun c ob q n hc hx => by
    obtain ⟨sl, e1⟩ := a.slot c ob q n hc hx
    obtain ⟨sl', e2⟩ := b.slot c _ e1 (a.free c ob q n hx) hc hx
    exact ⟨sl', e2⟩
  free := fun c ob q n hx => by
    obtain ⟨o', e1⟩ := a.there c ob q hx
    exact b.free c o' e1 (a.free c ob q n hx) hx
  there := fun c ob q hx => by
    obtain ⟨o', e1⟩ := a.there c ob q hx
    exact b.there c o' e1 hx
  tups := fun c xs q => b.tups c xs (a.tups c xs q)
  frzs := fun c ob xs q => b.frzs c ob xs (a.frzs c ob xs q)
  tbls := fun c ps q => by
    obtain ⟨m1, e1⟩ := a.tbls c ps q
    obtain ⟨m2, e2⟩ := b.tbls c _ e1
    exact ⟨m1 ++ m2, by rw [e2, Array.append_assoc]⟩
theorem Un.kept (k : ∀ b u, h.get? b = some u → h'.get? b = some u) : Un fs ex H H h h' :=
  ⟨fun b ob q _ _ _ => k b ob q, fun b ob q _ _ _ => ⟨ob.slots, k b ob q⟩, fun _ _ _ n _ => n, fun b ob q _ => ⟨ob, k b ob q⟩, fun _ _ q => q, fun _ _ _ q => q, fun _ ps q => ⟨#[], by rw [q]; simp⟩⟩
theorem Un.refl : Un fs ex H H h h := Un.kept fun _ _ q => q
theorem Un.laid (k : ∀ b u, h.get? b = some u → h'.get? b = some u) (hp : h.objs.size ≤ a) (hn : H a = none) : Un fs ex H (upd H a o) h h' where
  keep := fun b u q _ _ _ => k b u q
  slot := fun b u q _ _ _ => ⟨u.slots, k b u q⟩
  free := fun b u q n _ => by rw [upd_ne (Nat.ne_of_lt (Nat.lt_of_lt_of_le (Heap.lt_size q) hp))]; exact n
  there := fun b u q _ => ⟨u, k b u q⟩
  tups := fun b xs q => by rw [upd_ne (ne_of_none q hn)]; exact q
  frzs := fun b u xs q => by rw [upd_ne (ne_of_none q hn)]; exact q
  tbls := fun b ps q => ⟨#[], by rw [upd_ne (ne_of_none q hn), q]; simp⟩
theorem Un.write (mu : Mut (H x)) (he : e = x ∨ H e = some (.own x)) (k : ∀ b u, b ≠ e → h.get? b = some u → h'.get? b = some u) (heo : ∃ u, h'.get? e = some u) : Un fs ex H (upd H x o) h h' := by
  have hx : ∀ b, H b = none → b ≠ x := fun b n z => by subst z; rw [n] at mu; exact mu
  have hb : ∀ b, H b = none → b ≠ e := fun b n z => by
    subst z
    rcases he with r | r
    · exact hx b n r
    · rw [n] at r; cases r
  have hm : ∀ b u, H b = some u → ¬ Mut (some u) → b ≠ x := fun b u q nm z => by subst z; rw [q] at mu; exact nm mu
  refine ⟨fun b u q n _ _ => k b u (hb b n) q, fun b u q n _ _ => ⟨u.slots, k b u (hb b n) q⟩, fun b u q n _ => by rw [upd_ne (hx b n)]; exact n, fun b u q _ => ?_,
    fun b xs q => by rw [upd_ne (hm b _ q fun z => z)]; exact q, fun b u xs q => by rw [upd_ne (hm b _ q fun z => z)]; exact q, fun b ps q => ⟨#[], by rw [upd_ne (hm b _ q fun z => z), q]; simp⟩⟩
  by_cases hbe : b = e
  · subst hbe; exact heo
  · exact ⟨u, k b u hbe q⟩
theorem Un.mono (u : Un fs ex H H1 h h1) (hs : ∀ b ∈ fs, b ∈ fs') (hx : ∀ b ∈ ex, b ∈ ex') : Un fs' ex' H H1 h h1 :=
  ⟨fun b ob q n hb he => u.keep b ob q n (fun z => hb (hs b z)) fun z => he (hx b z), fun _ _ q n _ he => u.any q n fun z => he (hx _ z), fun b ob q n he => u.free b ob q n fun z => he (hx b z), fun b ob q he => u.there b ob q fun z => he (hx b z), u.tups, u.frzs, u.tbls⟩
end

/-! ### the heap without what is tracked -/
def trk (h : Heap) (H : Hp) : List Addr := (List.range h.objs.size).filter fun a => (H a).isSome
def hidT (h : Heap) (H : Hp) : Heap := PySem.W.hideAll h (trk h H)
theorem hidT_size (h : Heap) (H : Hp) : (hidT h H).objs.size = h.objs.size := PySem.W.hideAll_size _ _
theorem hidT_get {h : Heap} {H : Hp} {b : Addr} {o : Obj} (e : h.get? b = some o) (n : H b = none) : (hidT h H).get? b = some o :=
  PySem.W.hideAll_get _ e fun hm => by
    have q : (H b).isSome = true := (List.mem_filter.mp hm).2
    rw [n] at q; simp at q
theorem of_hidT {h : Heap} {H : Hp} {b : Addr} {o : Obj} (e : (hidT h H).get? b = some o) : h.get? b = some o ∧ H b = none := by
  have e' : h.get? b = some o := PySem.W.of_hideAll (trk h H) e
  refine ⟨e', ?_⟩
  cases q : H b with
  | none => rfl
  | some x =>
    have hm : b ∈ trk h H := List.mem_filter.mpr ⟨List.mem_range.mpr (Heap.lt_size e'), by simp [q]⟩
    have z : (hidT h H).get? b = none := PySem.W.hideAll_none (trk h H) hm
    rw [z] at e; cases e

/-! ### OpenK's ledger, filled with every new object but one -/
def allNews (g h : Heap) (L : Addr) : List (Addr × Obj) := (List.range h.objs.size).filterMap fun a => if a = L ∨ (g.get? a).isSome = true then none else (h.get? a).map fun o => (a, o)
def rest (g h : Heap) (L d : Addr) : List (Addr × Obj) := (allNews g h L).filter fun p => decide (p.1 ≠ d)
end L2

namespace L2
open PySem PySem.Spec PyProof.Rows

/-- the module's facts, over the base: the heap at the law's entry without what is tracked there -/
structure Mod (K : PySem.W.Frag) (mg : Str → Option Value) (base : Heap) : Prop where
  kin : K.In base
  glob : base.Ns mainGlobals mg
  blt : ∃ mb, base.Ns builtinsNs mb ∧ ∀ x : Str, x ≠ "__name__" → mb x = bootBuiltins x
  nolimit : base.NoLimit

/-- the context: a def's body (or a comprehension's block) running. base: fixed through the whole law; s₀, H₀: the entry; outer: the frames whose slots others may change (a def's callers); stack: all frames that run;
   ex: iterators that were made ahead of the entry and are walked here (a comprehension's); fn: the names whose cells were made at the entry (a def: all; a comprehension's block: its own); calm: not within an except suite; pn: pins that every state bears; xe: what is wanted of an exception that leaves the code -/
structure Cx where
  prog : Program
  w : World
  K : PySem.W.Frag
  mg : Str → Option Value
  base : Heap
  A : Around
  N : List Str
  s₀ : Shared
  H₀ : Hp
  env : Env
  outer : List Env
  stack : List Env
  ex : List Addr
  fn : Str → Bool
  calm : Bool
  pn : List (Addr × Obj)
  xe : Value → Shared → Prop
/-- the callers' frames -/
def frs (l : List Env) : List Addr := l.filterMap (·.frame)
abbrev Cx.fs (X : Cx) : List Addr := frs X.outer

def Vis (sc : Scope) (x : Str) : Prop := sc.names.lookup x = some .local ∨ sc.names.lookup x = some .cell ∨ sc.names.lookup x = some .free
def Loc (sc : Scope) (x : Str) : Prop := sc.names.lookup x = some .local ∨ sc.names.lookup x = some .cell
def Look (env : Env) (h : Heap) (m : Str → Option Value) (x : Str) (u : Value) : Prop :=
  (env.kindOf x = some .local ∧ m x = some u) ∨ ((env.kindOf x = some .cell ∨ env.kindOf x = some .free) ∧ ∃ c, env.cells.lookup x = some c ∧ h.IsCell c (some u))

structure Cx.Ok (X : Cx) : Prop where
  mod : Mod X.K X.mg X.base
  kind : X.env.scope.kind = .function
  glob : X.env.globals = mainGlobals
  blt : X.env.builtins = builtinsNs
  above : X.s₀.heap.objs.size ≤ X.env.locals
  inj : ∀ x y c, X.env.cells.lookup x = some c → X.env.cells.lookup y = some c → x = y
  has : ∀ x, (X.env.kindOf x = some .cell ∨ X.env.kindOf x = some .free) → ∃ c, X.env.cells.lookup x = some c
  cab : ∀ x c, X.fn x = true → X.env.cells.lookup x = some c → X.s₀.heap.objs.size ≤ c
  hd : X.calm = true → X.A.handled = none
  frames : X.A.frames = some X.stack
  stk : X.stack = X.outer ∨ (X.stack = X.env :: X.outer ∧ X.env.frame = some X.env.locals)
  exf : ∀ b ∈ X.ex, b ≠ X.env.locals ∧ ∀ x c, X.env.cells.lookup x = some c → c ≠ b
  bs : ∀ b o, X.base.get? b = some o → X.s₀.heap.get? b = some o ∧ X.H₀ b = none
  bsz : X.base.objs.size ≤ X.s₀.heap.objs.size
  noex : ∀ b o, X.base.get? b = some o → b ∉ X.ex
  exfs : ∀ b ∈ X.ex, b ∉ X.fs
  funs : X.s₀.heap.FunFrames X.base X.outer
  frf : ∀ b ∈ X.fs, X.H₀ b = none

structure Inv (X : Cx) (pins : List (Addr × Obj)) (σ : List (Option V)) (H : Hp) (s : Shared) : Prop where
  ok : X.Ok
  os : s.os = X.s₀.os
  bare : AllBare s.gens
  base : Un X.fs X.ex X.H₀ H X.s₀.heap s.heap
  loc : ∃ m, s.heap.Ns X.env.locals m ∧ ∀ (i : Nat) (x : Str) (v : V), X.N[i]? = some x → σ[i]? = some (some v) → Vis X.env.scope x → ∃ u, RelV v u ∧ Look X.env s.heap m x u
  cell : ∀ x c, X.env.cells.lookup x = some c → ∃ v, s.heap.IsCell c v
  free : H X.env.locals = none
  freeC : ∀ x c, X.env.cells.lookup x = some c → H c = none
  pin : ∀ p ∈ X.pn ++ pins, s.heap.get? p.1 = some p.2 ∧ H p.1 = none ∧ p.1 ≠ X.env.locals ∧ p.1 ∉ X.fs ∧ ∀ v, p.2.data ≠ .cell v
  hok : HOk X.prog X.w H s.heap
  len : σ.length = X.N.length

section
variable {X : Cx} {pins : List (Addr × Obj)} {σ : List (Option V)} {H H' : Hp} {s : Shared} {h' : Heap}

theorem Cx.Ok.nofr (ok : X.Ok) {b : Addr} {o : Obj} (e : X.base.get? b = some o) : b ∉ X.fs := fun hb => by
  have := (ok.funs.mem hb).1
  rw [e] at this; cases this
theorem Inv.bs (I : Inv X pins σ H s) : ∀ b o, X.base.get? b = some o → s.heap.get? b = some o ∧ H b = none := fun b o e =>
  ⟨I.base.keep b o (I.ok.bs b o e).1 (I.ok.bs b o e).2 (I.ok.nofr e) (I.ok.noex b o e), I.base.free b o (I.ok.bs b o e).1 (I.ok.bs b o e).2 (I.ok.noex b o e)⟩
theorem Inv.bk (I : Inv X pins σ H s) : ∀ b o, X.base.get? b = some o → s.heap.get? b = some o := fun b o e => (I.bs b o e).1
theorem Inv.mod (I : Inv X pins σ H s) : Mod X.K X.mg X.base := I.ok.mod
theorem Inv.kIn (I : Inv X pins σ H s) : X.K.In s.heap := I.ok.mod.kin.keeps I.bk
theorem Inv.nolimit (I : Inv X pins σ H s) : s.heap.NoLimit := I.ok.mod.nolimit.keeps I.bk
/-- the frame over the base: for OpenK's rules (K.In X.base is I.mod.kin) -/
theorem Inv.fr (I : Inv X pins σ H s) : ∃ m, Fr X.base X.env.locals s.heap m :=
  let ⟨m, hn, _⟩ := I.loc
  ⟨m, hn, I.bk, Nat.le_trans I.ok.bsz I.ok.above⟩
theorem Inv.lt (I : Inv X pins σ H s) : X.env.locals < s.heap.objs.size := let ⟨_, hn, _⟩ := I.loc; hn.lt
theorem Inv.sz (I : Inv X pins σ H s) : X.s₀.heap.objs.size ≤ s.heap.objs.size := Nat.le_trans I.ok.above (Nat.le_of_lt I.lt)
theorem Inv.nofs (I : Inv X pins σ H s) {a : Addr} (h : s.heap.objs.size ≤ a) : a ∉ X.fs := fun hb => by
  obtain ⟨_, o, ho, _⟩ := I.ok.funs.mem hb
  exact absurd (Nat.lt_of_lt_of_le (Heap.lt_size ho) (Nat.le_trans I.sz h)) (Nat.lt_irrefl _)
theorem Inv.cne (I : Inv X pins σ H s) : ∀ x c, X.env.cells.lookup x = some c → c ≠ X.env.locals := fun x c e z => by
  obtain ⟨v, o, ho, hd⟩ := I.cell x c e
  obtain ⟨m, ⟨o', es, ep, ho', hd', _⟩, _⟩ := I.loc
  rw [z, ho'] at ho; cases ho; rw [hd'] at hd; cases hd
theorem Inv.funs (I : Inv X pins σ H s) : s.heap.FunFrames X.base X.outer := by
  have all : ∀ (l : List Env), (∀ b ∈ frs l, b ∈ X.fs) → X.s₀.heap.FunFrames X.base l → s.heap.FunFrames X.base l := by
    intro l
    induction l with
    | nil => intro _ _; trivial
    | cons env r ih =>
      intro hs hl
      obtain ⟨hk, ⟨L, o, hf, hn, ho, hd⟩, hr⟩ := hl
      have hL : L ∈ X.fs := hs L (by unfold frs; rw [List.filterMap_cons, hf]; exact List.mem_cons_self)
      obtain ⟨sl, e⟩ := I.base.slot L o ho (I.ok.frf L hL) hL fun z => I.ok.exfs L z hL
      exact ⟨hk, ⟨L, _, hf, hn, e, hd⟩, ih (fun b hb => hs b (by unfold frs; rw [List.filterMap_cons, hf]; exact List.mem_cons_of_mem _ hb)) hr⟩
  exact all X.outer (fun _ hb => hb) I.ok.funs

/-- the frames that run, for a call -/
theorem Inv.stack (I : Inv X pins σ H s) : s.heap.FunFrames X.base X.stack := by
  rcases I.ok.stk with e | ⟨e, hf⟩
  · rw [e]; exact I.funs
  · rw [e]
    obtain ⟨m, hn, _⟩ := I.loc
    refine .cons (by rw [I.ok.kind]; decide) hf hn ?_ I.funs
    exact Heap.get?_none_of_le (Nat.le_trans I.ok.bsz I.ok.above)
theorem Inv.stkSub (I : Inv X pins σ H s) : ∀ b ∈ frs X.stack, b ∈ X.env.locals :: X.fs := fun b hb => by
  rcases I.ok.stk with e | ⟨e, hf⟩
  · rw [e] at hb; exact List.mem_cons_of_mem _ hb
  · rw [e] at hb
    unfold frs at hb
    rw [List.filterMap_cons, hf] at hb
    exact hb
theorem Inv.stkFree (I : Inv X pins σ H s) : ∀ b ∈ frs X.stack, H b = none := fun b hb => by
  rcases List.mem_cons.mp (I.stkSub b hb) with e | hb
  · rw [e]; exact I.free
  · obtain ⟨_, o, ho, _⟩ := I.ok.funs.mem hb
    exact I.base.free b o ho (I.ok.frf b hb) fun z => I.ok.exfs b z hb

/-- THE STEP: the untracked objects but the frame and the records at ch are kept (the callers' frames up to slots), the frame's map is kept, the new abstract heap is held -/
theorem Inv.step {g' : Array GenState} {t' : Nat} {d' : Drawn} {ch : List Addr} (I : Inv X pins σ H s)
    (hch : ∀ b ∈ ch, (b ∈ X.ex ∨ X.s₀.heap.objs.size ≤ b) ∧ b ≠ X.env.locals ∧ (∀ x c, X.env.cells.lookup x = some c → c ≠ b) ∧ ∀ p ∈ X.pn ++ pins, p.1 ≠ b)
    (keep : ∀ b o, b ≠ X.env.locals → b ∉ X.fs → b ∉ ch → s.heap.get? b = some o → H b = none → h'.get? b = some o)
    (slot : ∀ b o, b ≠ X.env.locals → b ∈ X.fs → b ∉ ch → s.heap.get? b = some o → H b = none → ∃ sl, h'.get? b = some { o with slots := sl }) (free : ∀ b o, b ∉ ch → s.heap.get? b = some o → H b = none → H' b = none)
    (there : ∀ b o, b ∉ ch → s.heap.get? b = some o → ∃ o', h'.get? b = some o')
    (tups : ∀ b xs, H b = some (.tup xs) → H' b = some (.tup xs)) (frzs : ∀ b o u, H b = some (.frz o u) → H' b = some (.frz o u)) (tbls : ∀ b ps, H b = some (.tbl ps) → ∃ more, H' b = some (.tbl (ps ++ more)))
    (ns : ∀ m, s.heap.Ns X.env.locals m → h'.Ns X.env.locals m) (hok : HOk X.prog X.w H' h') (hg : AllBare g') :
    Inv X pins σ H' { s with heap := h', gens := g', drawn := d', toks := t' } := by
  have neL : ∀ b o, X.s₀.heap.get? b = some o → b ≠ X.env.locals := fun b o e => Nat.ne_of_lt (Nat.lt_of_lt_of_le (Heap.lt_size e) I.ok.above)
  have neC : ∀ b o, X.s₀.heap.get? b = some o → b ∉ X.ex → b ∉ ch := fun b o e hx hb => by
    rcases (hch b hb).1 with z | z
    · exact hx z
    · exact absurd (Nat.lt_of_lt_of_le (Heap.lt_size e) z) (Nat.lt_irrefl _)
  have cellK : ∀ x c, X.env.cells.lookup x = some c → ∀ v, s.heap.IsCell c v → h'.IsCell c v := fun x c e v ⟨o, ho, hd⟩ => by
    have nch : c ∉ ch := fun z => (hch c z).2.2.1 x c e rfl
    by_cases hc : c ∈ X.fs
    · obtain ⟨sl, q⟩ := slot c o (I.cne x c e) hc nch ho (I.freeC x c e)
      exact ⟨_, q, hd⟩
    · exact ⟨o, keep c o (I.cne x c e) hc nch ho (I.freeC x c e), hd⟩
  refine ⟨I.ok, I.os, hg, ⟨fun b o e n hb hx => ?_, fun b o e n hb hx => ?_, fun b o e n hx => ?_, fun b o e hx => ?_, fun b xs e => tups b xs (I.base.tups b xs e), fun b o xs e => frzs b o xs (I.base.frzs b o xs e), fun b ps e => ?_⟩, ?_, fun x c e => ?_, ?_, fun x c e => ?_, fun p hp => ?_, hok, I.len⟩
  · exact keep b o (neL b o e) hb (neC b o e hx) (I.base.keep b o e n hb hx) (I.base.free b o e n hx)
  · obtain ⟨sl, e1⟩ := I.base.slot b o e n hb hx
    obtain ⟨sl', e2⟩ := slot b _ (neL b o e) hb (neC b o e hx) e1 (I.base.free b o e n hx)
    exact ⟨sl', e2⟩
  · obtain ⟨o', e1⟩ := I.base.there b o e hx
    exact free b o' (neC b o e hx) e1 (I.base.free b o e n hx)
  · obtain ⟨o', e1⟩ := I.base.there b o e hx
    exact there b o' (neC b o e hx) e1
  · obtain ⟨m1, e1⟩ := I.base.tbls b ps e
    obtain ⟨m2, e2⟩ := tbls b _ e1
    exact ⟨m1 ++ m2, by rw [e2, Array.append_assoc]⟩
  · obtain ⟨m, hn, hl⟩ := I.loc
    refine ⟨m, ns m hn, fun i x v e1 e2 e3 => ?_⟩
    obtain ⟨u, r, l⟩ := hl i x v e1 e2 e3
    refine ⟨u, r, ?_⟩
    rcases l with l | ⟨k, c, e, z⟩
    · exact .inl l
    · exact .inr ⟨k, c, e, cellK x c e _ z⟩
  · obtain ⟨v, z⟩ := I.cell x c e
    exact ⟨v, cellK x c e v z⟩
  · obtain ⟨m, ⟨o, _, _, ho, _⟩, _⟩ := I.loc
    exact free _ o (fun z => (hch _ z).2.1 rfl) ho I.free
  · obtain ⟨v, o, ho, hd⟩ := I.cell x c e
    exact free c o (fun z => (hch c z).2.2.1 x c e rfl) ho (I.freeC x c e)
  · obtain ⟨e, n, ne, nf, d⟩ := I.pin p hp
    have nch : p.1 ∉ ch := fun z => (hch p.1 z).2.2.2 p hp rfl
    exact ⟨keep p.1 p.2 ne nf nch e n, free p.1 p.2 nch e n, ne, nf, d⟩
/-- .. where the frame's own object is kept too -/
theorem Inv.un {t' : Nat} (I : Inv X pins σ H s) (u : Un X.fs [] H H' s.heap h') (hok : HOk X.prog X.w H' h') : Inv X pins σ H' { s with heap := h', toks := t' } := by
  obtain ⟨m, ⟨o, es, ep, ho, r⟩, _⟩ := id I.loc
  obtain ⟨sl, hL⟩ := u.any ho I.free (by simp)
  exact I.step (g' := s.gens) (d' := s.drawn) (ch := []) (fun _ z => nomatch z) (fun b o _ hb _ e n => u.keep b o e n hb (by simp)) (fun b o _ hb _ e n => u.slot b o e n hb (by simp)) (fun b o _ e n => u.free b o e n (by simp)) (fun b o _ e => u.there b o e (by simp)) u.tups u.frzs u.tbls (fun m' hm => by
    obtain ⟨o', es', ep', ho', r'⟩ := hm
    rw [ho] at ho'; cases ho'
    exact ⟨_, es', ep', hL, r'⟩) hok I.bare
/-- behind a call (or a comprehension's block): the slots of this frame may have changed too, the records at ch may have turned -/
theorem Inv.call {g' : Array GenState} {t' : Nat} {d' : Drawn} {ch : List Addr} (I : Inv X pins σ H s) (u : Un (frs X.stack) ch H H' s.heap h') (hok : HOk X.prog X.w H' h') (hg : AllBare g')
    (hch : ∀ b ∈ ch, (b ∈ X.ex ∨ X.s₀.heap.objs.size ≤ b) ∧ b ≠ X.env.locals ∧ (∀ x c, X.env.cells.lookup x = some c → c ≠ b) ∧ ∀ p ∈ X.pn ++ pins, p.1 ≠ b) :
    Inv X pins σ H' { s with heap := h', gens := g', drawn := d', toks := t' } := by
  obtain ⟨m, ⟨o, es, ep, ho, r⟩, _⟩ := id I.loc
  obtain ⟨sl, hL⟩ := u.any ho I.free fun z => (hch _ z).2.1 rfl
  exact I.step (ch := ch) hch (fun b o hL hb hc e n => u.keep b o e n (fun z => (List.mem_cons.mp (I.stkSub b z)).elim hL hb) hc) (fun b o _ _ hc e n => u.any e n hc) (fun b o hc e n => u.free b o e n hc) (fun b o hc e => u.there b o e hc) u.tups u.frzs u.tbls (fun m' hm => by
    obtain ⟨o', es', ep', ho', r'⟩ := hm
    rw [ho] at ho'; cases ho'
    exact ⟨_, es', ep', hL, r'⟩) hok hg
/-- an untracked record of ours (an iterator) has turned -/
theorem Inv.turned {t' : Nat} {it : Addr} (I : Inv X pins σ H s) (k : ∀ b o, b ≠ it → s.heap.get? b = some o → h'.get? b = some o) (hn : H it = none) (hL : it ≠ X.env.locals)
    (h1 : it ∈ X.ex ∨ X.s₀.heap.objs.size ≤ it) (h2 : ∀ x c, X.env.cells.lookup x = some c → c ≠ it) (h3 : ∀ p ∈ X.pn ++ pins, p.1 ≠ it) : Inv X pins σ H { s with heap := h', toks := t' } := by
  have nit : ∀ b u, H b = some u → b ≠ it := fun b u e z => by rw [z, hn] at e; cases e
  refine I.step (g' := s.gens) (d' := s.drawn) (ch := [it]) (fun b hb => ?_) (fun b o _ _ hc e _ => k b o (fun z => hc (by simp [z])) e) (fun b o _ _ hc e _ => ⟨o.slots, k b o (fun z => hc (by simp [z])) e⟩) (fun _ _ _ _ n => n)
    (fun b o hc e => ⟨o, k b o (fun z => hc (by simp [z])) e⟩) (fun _ _ e => e) (fun _ _ _ e => e) (fun b ps e => ⟨#[], by rw [e]; simp⟩) (fun m hm => ?_) (fun b u e => ?_) I.bare
  · have e : b = it := by simpa using hb
    subst e
    exact ⟨h1, hL, h2, h3⟩
  · obtain ⟨o, es, ep, ho, r⟩ := hm
    exact ⟨o, es, ep, k _ o (Ne.symm hL) ho, r⟩
  · refine (I.hok b u e).stay (fun c v hc q => k c v ?_ q) (fun _ q => q) fun _ _ q => q
    rcases hc with z | z
    · rw [z]; exact nit b u e
    · exact nit c _ z
theorem Inv.tok (I : Inv X pins σ H s) (t : Nat) : Inv X pins σ H { s with toks := t } := I.un (h' := s.heap) (t' := t) Un.refl I.hok
/-- all objects kept -/
theorem Inv.kept {t' : Nat} (I : Inv X pins σ H s) (k : ∀ b u, s.heap.get? b = some u → h'.get? b = some u) : Inv X pins σ H { s with heap := h', toks := t' } := I.un (Un.kept k) (I.hok.kept k)
/-- a new object laid and tracked -/
theorem Inv.laid {a : Addr} {o : HO} {t' : Nat} (I : Inv X pins σ H s) (k : ∀ b u, s.heap.get? b = some u → h'.get? b = some u) (hp : s.heap.objs.size ≤ a) (new : ObjOk X.prog X.w (upd H a o) h' a o) :
    Inv X pins σ (upd H a o) { s with heap := h', toks := t' } := I.un (Un.laid k hp (I.hok.fresh hp)) (I.hok.laid k hp new)
/-- an object written -/
theorem Inv.write {x e : Addr} {o : HO} {t' : Nat} (I : Inv X pins σ H s) (mu : Mut (H x)) (he : e = x ∨ H e = some (.own x)) (k : ∀ b u, b ≠ e → s.heap.get? b = some u → h'.get? b = some u) (heo : ∃ u, h'.get? e = some u)
    (new : ObjOk X.prog X.w (upd H x o) h' x o) : Inv X pins σ (upd H x o) { s with heap := h', toks := t' } := I.un (Un.write mu he k heo) (I.hok.write mu he k heo new)
/-- forgetting slots, pins -/
theorem Inv.weak {σ' : List (Option V)} (I : Inv X pins σ H s) (hl : σ'.length = σ.length) (w : ∀ (i : Nat) v, σ'[i]? = some (some v) → σ[i]? = some (some v)) : Inv X pins σ' H s :=
  ⟨I.ok, I.os, I.bare, I.base, let ⟨m, hn, hl'⟩ := I.loc; ⟨m, hn, fun i x v e1 e2 e3 => hl' i x v e1 (w i v e2) e3⟩, I.cell, I.free, I.freeC, I.pin, I.hok, hl.trans I.len⟩
theorem Inv.pins_of {pins' : List (Addr × Obj)} (I : Inv X pins σ H s) (h : ∀ p ∈ pins', s.heap.get? p.1 = some p.2 ∧ H p.1 = none ∧ p.1 ≠ X.env.locals ∧ p.1 ∉ X.fs ∧ ∀ v, p.2.data ≠ .cell v) : Inv X pins' σ H s :=
  ⟨I.ok, I.os, I.bare, I.base, I.loc, I.cell, I.free, I.freeC, fun p hp => (List.mem_append.mp hp).elim (fun z => I.pin p (List.mem_append_left _ z)) (h p), I.hok, I.len⟩

theorem nodup_ix {N : List Str} (hN : N.Nodup) {i j : Nat} {x : Str} (a : N[i]? = some x) (b : N[j]? = some x) : i = j := by
  obtain ⟨h1, e1⟩ := List.getElem?_eq_some_iff.mp a
  obtain ⟨h2, e2⟩ := List.getElem?_eq_some_iff.mp b
  exact (List.getElem_inj hN).mp (e1.trans e2.symm)

/-- a name is stored; what changed -/
theorem store_ok2 {M : Model} {A : Around} {E : Value → Shared → Prop} {i : Nat} {x : Str} {v : V} {u : Value} {Q : Unit → Shared → Prop} (I : Inv X pins σ H s) (hN : X.N.Nodup) (hi : X.N[i]? = some x) (hx : Loc X.env.scope x) (r : RelV v u)
    (h : ∀ s', Inv X pins (σ.set i (some v)) H s' → (∃ a, Heap.SameBut a s.heap s'.heap ∧ (a = X.env.locals ∨ X.env.cells.lookup x = some a)) → Q () s') (hf : X.fn x = true ∨ X.env.scope.names.lookup x = some .local := by first | exact .inl rfl | exact .inr rfl | assumption) : wpAny M A (storeName X.env x u) Q E s := by
  obtain ⟨m, hn, hl⟩ := id I.loc
  have hcls : (X.env.scope.kind == .class || (X.env.scope.kind == .module && X.env.locals != X.env.globals)) = false := by rw [I.ok.kind]; rfl
  have hiσ : i < σ.length := by rw [I.len]; exact (List.getElem?_eq_some_iff.mp hi).1
  have cne := I.cne
  have tracked : ∀ {a : Addr} {h' : Heap}, (∃ o, s.heap.get? a = some o ∧ H a = none) → Heap.SameBut a s.heap h' → HOk X.prog X.w H h' := fun {a h'} ha hs b ob e => by
    obtain ⟨_, _, hfree⟩ := ha
    refine (I.hok b ob e).stay (fun c w' hc q => (hs.2 c ?_).trans q) (fun _ q => q) fun _ _ q => q
    rintro rfl
    rcases hc with rfl | hc
    · rw [hfree] at e; cases e
    · rw [hfree] at hc; cases hc
  rcases hx with hk | hk
  · refine wpAny_storeName_local hk hn (fun h' hn' hs => ?_) hcls
    obtain ⟨oL, _, _, hoL, _⟩ := id hn
    refine h _ ⟨I.ok, I.os, I.bare, ⟨fun b o e n hb hx => ?_, fun b o e n hb hx => ?_, I.base.free, fun b o e hx => ?_, I.base.tups, I.base.frzs, I.base.tbls⟩, ⟨_, hn', fun j y v' e1 e2 e3 => ?_⟩, fun y c e => ?_, I.free, I.freeC, fun p hp => ?_, tracked ⟨oL, hoL, I.free⟩ hs, by simpa using I.len⟩ ⟨_, hs, .inl rfl⟩
    · exact (hs.2 b (Nat.ne_of_lt (Nat.lt_of_lt_of_le (Heap.lt_size e) I.ok.above))).trans (I.base.keep b o e n hb hx)
    · obtain ⟨sl, e1⟩ := I.base.slot b o e n hb hx
      exact ⟨sl, (hs.2 b (Nat.ne_of_lt (Nat.lt_of_lt_of_le (Heap.lt_size e) I.ok.above))).trans e1⟩
    · obtain ⟨o', e1⟩ := I.base.there b o e hx
      exact ⟨o', (hs.2 b (Nat.ne_of_lt (Nat.lt_of_lt_of_le (Heap.lt_size e) I.ok.above))).trans e1⟩
    · by_cases hj : j = i
      · subst hj
        rw [hi] at e1; cases e1
        rw [List.getElem?_set_self hiσ] at e2
        cases e2
        exact ⟨u, r, .inl ⟨hk, by simp⟩⟩
      · rw [List.getElem?_set_ne (Ne.symm hj)] at e2
        obtain ⟨u', r', q⟩ := hl j y v' e1 e2 e3
        refine ⟨u', r', ?_⟩
        rcases q with ⟨k, e⟩ | ⟨k, c, e, z⟩
        · refine .inl ⟨k, ?_⟩
          have : y ≠ x := fun e => hj (nodup_ix hN e1 (e ▸ hi))
          simp [this, e]
        · exact .inr ⟨k, c, e, z.sameBut hs (cne y c e)⟩
    · obtain ⟨w', z⟩ := I.cell y c e
      exact ⟨w', z.sameBut hs (cne y c e)⟩
    · obtain ⟨e, n, ne, nf, d⟩ := I.pin p hp
      exact ⟨(hs.2 p.1 ne).trans e, n, ne, nf, d⟩
  · have hfn : X.fn x = true := by
      rcases hf with z | z
      · exact z
      · rw [z] at hk; cases hk
    obtain ⟨c, hc⟩ := I.ok.has x (.inl hk)
    obtain ⟨w', z⟩ := I.cell x c hc
    refine wpAny_storeName_cell I.ok.kind hk hc z (fun h' hc' hs => ?_)
    obtain ⟨oc, hoc, hocd⟩ := id z
    refine h { s with heap := h' } ⟨I.ok, I.os, I.bare, ⟨fun b o e n hb hx => ?_, fun b o e n hb hx => ?_, I.base.free, fun b o e hx => ?_, I.base.tups, I.base.frzs, I.base.tbls⟩, ⟨m, hn.sameBut hs (Ne.symm (cne x c hc)), fun j y v' e1 e2 e3 => ?_⟩, fun y c' e => ?_, I.free, I.freeC, fun p hp => ?_, tracked ⟨oc, hoc, I.freeC x c hc⟩ hs, by simpa using I.len⟩ ⟨c, hs, .inr hc⟩
    · exact (hs.2 b (Nat.ne_of_lt (Nat.lt_of_lt_of_le (Heap.lt_size e) (I.ok.cab x c hfn hc)))).trans (I.base.keep b o e n hb hx)
    · obtain ⟨sl, e1⟩ := I.base.slot b o e n hb hx
      exact ⟨sl, (hs.2 b (Nat.ne_of_lt (Nat.lt_of_lt_of_le (Heap.lt_size e) (I.ok.cab x c hfn hc)))).trans e1⟩
    · obtain ⟨o', e1⟩ := I.base.there b o e hx
      exact ⟨o', (hs.2 b (Nat.ne_of_lt (Nat.lt_of_lt_of_le (Heap.lt_size e) (I.ok.cab x c hfn hc)))).trans e1⟩
    · by_cases hj : j = i
      · subst hj
        rw [hi] at e1; cases e1
        rw [List.getElem?_set_self hiσ] at e2
        cases e2
        exact ⟨u, r, .inr ⟨.inl hk, c, hc, hc'⟩⟩
      · rw [List.getElem?_set_ne (Ne.symm hj)] at e2
        obtain ⟨u', r', q⟩ := hl j y v' e1 e2 e3
        refine ⟨u', r', ?_⟩
        rcases q with q | ⟨k, c', e, z'⟩
        · exact .inl q
        · refine .inr ⟨k, c', e, z'.sameBut hs ?_⟩
          rintro rfl
          exact hj (nodup_ix hN e1 (I.ok.inj _ _ _ e hc ▸ hi))
    · by_cases hcc : c' = c
      · subst hcc; exact ⟨_, hc'⟩
      · obtain ⟨w2, z2⟩ := I.cell y c' e
        exact ⟨w2, z2.sameBut hs hcc⟩
    · obtain ⟨e, n, ne, nf, d⟩ := I.pin p hp
      refine ⟨(hs.2 p.1 ?_).trans e, n, ne, nf, d⟩
      intro q
      rw [q, hoc] at e
      have q' : oc = p.2 := Option.some.inj e
      exact d w' (by rw [← q']; exact hocd)
theorem store_ok {M : Model} {A : Around} {E : Value → Shared → Prop} {i : Nat} {x : Str} {v : V} {u : Value} {Q : Unit → Shared → Prop} (I : Inv X pins σ H s) (hN : X.N.Nodup) (hi : X.N[i]? = some x) (hx : Loc X.env.scope x) (r : RelV v u)
    (h : ∀ s', Inv X pins (σ.set i (some v)) H s' → Q () s') (hf : X.fn x = true ∨ X.env.scope.names.lookup x = some .local := by first | exact .inl rfl | exact .inr rfl | assumption) : wpAny M A (storeName X.env x u) Q E s :=
  store_ok2 I hN hi hx r (fun s' I' _ => h s' I') hf
/-- behind a call or a block, the state as it is -/
theorem Inv.call' {s' : Shared} {ch : List Addr} (I : Inv X pins σ H s) (ho : s'.os = s.os) (u : Un (frs X.stack) ch H H' s.heap s'.heap) (hok : HOk X.prog X.w H' s'.heap) (hg : AllBare s'.gens)
    (hch : ∀ b ∈ ch, (b ∈ X.ex ∨ X.s₀.heap.objs.size ≤ b) ∧ b ≠ X.env.locals ∧ (∀ x c, X.env.cells.lookup x = some c → c ≠ b) ∧ ∀ p ∈ X.pn ++ pins, p.1 ≠ b) : Inv X pins σ H' s' := by
  obtain ⟨h', g', d', t', o'⟩ := s'
  have e : o' = s.os := ho
  subst e
  exact I.call (g' := g') (t' := t') (d' := d') u hok hg hch
end

/-! ### the judgements -/
/-- an exception: its class, its own dict's address (where it has one), the abstract heap behind it -/
abbrev XK := Value → Option Addr → Hp → Prop
abbrev St := List (Option V)
abbrev VK := V → Hp → Prop
/-- an expression's reading; a test's; an argument list's -/
abbrev TE := St → Hp → VK → Prop
abbrev TT := St → Hp → (Bool → Hp → Prop) → Prop
abbrev TA := St → Hp → (List V → Hp → Prop) → Prop
/-- what is wanted behind a statement -/
structure Ends where
  nx : St → Hp → Prop
  rt : VK
  bk : St → Hp → Prop := fun _ _ => False
  ct : St → Hp → Prop := fun _ _ => False
abbrev TS := Ends → St → Hp → Prop

def EP (X : Cx) (pins : List (Addr × Obj)) (σ : St) (Q : VK) (u : Value) (s' : Shared) : Prop := ∃ v H', Inv X pins σ H' s' ∧ RelV v u ∧ Q v H'
def TP (X : Cx) (pins : List (Addr × Obj)) (σ : St) (Q : Bool → Hp → Prop) (b : Bool) (s' : Shared) : Prop := ∃ H', Inv X pins σ H' s' ∧ Q b H'
def AP (X : Cx) (pins : List (Addr × Obj)) (σ : St) (Q : List V → Hp → Prop) (us : List Value) (s' : Shared) : Prop := ∃ vs H', Inv X pins σ H' s' ∧ Vals vs us ∧ Q vs H'
def SP (X : Cx) (pins : List (Addr × Obj)) (D : Ends) (f : Flow) (s' : Shared) : Prop :=
  match f with
  | .next => ∃ σ' H', Inv X pins σ' H' s' ∧ D.nx σ' H'
  | .brk => ∃ σ' H', Inv X pins σ' H' s' ∧ D.bk σ' H'
  | .cont => ∃ σ' H', Inv X pins σ' H' s' ∧ D.ct σ' H'
  | .ret u => ∃ v σ' H', Inv X pins σ' H' s' ∧ RelV v u ∧ D.rt v H'

def PE (X : Cx) (e : Expr) (t : TE) : Prop :=
  ∀ (pins : List (Addr × Obj)) (s : Shared) (σ : St) (H : Hp) (Q : VK), Inv X pins σ H s → t σ H Q → wpAny (model X.prog X.w) X.A (eval e X.env) (EP X pins σ Q) X.xe s
def PT (X : Cx) (e : Expr) (t : TT) : Prop :=
  ∀ (pins : List (Addr × Obj)) (s : Shared) (σ : St) (H : Hp) (Q : Bool → Hp → Prop), Inv X pins σ H s → t σ H Q → wpAny (model X.prog X.w) X.A (isTrue e X.env (eval e X.env)) (TP X pins σ Q) X.xe s
/-- a test whatever its 'whole' is (and, or) -/
def PW (X : Cx) (e : Expr) (t : TT) : Prop :=
  ∀ (whole : Sem Value) (pins : List (Addr × Obj)) (s : Shared) (σ : St) (H : Hp) (Q : Bool → Hp → Prop), Inv X pins σ H s → t σ H Q → wpAny (model X.prog X.w) X.A (isTrue e X.env whole) (TP X pins σ Q) X.xe s
theorem PW.pt {X : Cx} {e : Expr} {t : TT} (h : PW X e t) : PT X e t := h _
/-- an argument list (no star), from the left -/
def PA (X : Cx) (es : List Expr) (t : TA) : Prop :=
  ∀ (pos : Pos) (pins : List (Addr × Obj)) (s : Shared) (σ : St) (H : Hp) (Q : List V → Hp → Prop), Inv X pins σ H s → t σ H Q → wpAny (model X.prog X.w) X.A (spliced (backTo pos (starEach es X.env))) (AP X pins σ Q) X.xe s
def PS (X : Cx) (st : Stmt) (t : TS) : Prop :=
  ∀ (pins : List (Addr × Obj)) (s : Shared) (σ : St) (H : Hp) (D : Ends), Inv X pins σ H s → t D σ H → wpAny (model X.prog X.w) X.A (exec st X.env) (SP X pins D) X.xe s
def PSs (X : Cx) (st : List Stmt) (t : TS) : Prop :=
  ∀ (pins : List (Addr × Obj)) (s : Shared) (σ : St) (H : Hp) (D : Ends), Inv X pins σ H s → t D σ H → wpAny (model X.prog X.w) X.A (execs st X.env) (SP X pins D) X.xe s
/-- weaken the end -/
theorem thn {α : Type} {t : Sem α} {Q Q' : α → Shared → Prop} {M : Model} {A : Around} {E : Value → Shared → Prop} {s : Shared} (h : wpAny M A t Q E s) (hQ : ∀ a s, Q a s → Q' a s) : wpAny M A t Q' E s := wpAny_mono h hQ fun _ _ x => x
end L2

namespace L2
open PySem PySem.Spec PyProof.Rows
section
variable {X : Cx}

/-! ### names and constants -/
def tVar (i : Nat) : TE := fun σ H Q => ∃ v, σ[i]? = some (some v) ∧ Q v H
def tC (v : V) : TE := fun _ H Q => Q v H
theorem pe_var {i : Nat} {x : Str} {pos : Pos} (hN : X.N[i]? = some x) (hv : Vis X.env.scope x) (hd : (x == ("__debug__" : Str)) = false := by decide) (hcd : (x == ("__classdict__" : Str)) = false := by decide) : PE X (.Name x pos) (tVar i) := by
  intro pins s σ H Q I h
  obtain ⟨v, e, h⟩ := h
  obtain ⟨m, hn, hl⟩ := I.loc
  obtain ⟨u, r, l⟩ := hl i x v hN e hv
  have fin : EP X pins σ Q u s := ⟨v, H, I, r, h⟩
  rcases l with ⟨hk, hm⟩ | ⟨hk, c, hc, hcell⟩
  · exact wpAny_Name (wpAny_loadName_local I.ok.kind hk hn hm fin) hd
  · rcases hk with hk | hk
    · exact wpAny_Name (wpAny_loadName_cell I.ok.kind hk hc hcell fin) hd
    · exact wpAny_Name (wpAny_loadName_free I.ok.kind hk hc hcell fin hcd) hd
theorem pe_int {i j pos} : PE X (.Constant (.int i) j pos) (tC (.int i)) := fun _ _ _ H _ I h => wpAny_Constant_int ⟨.int i, H, I.tok _, ⟨_, rfl⟩, h⟩
theorem pe_bl {b j pos} : PE X (.Constant (.bool b) j pos) (tC (.bl b)) := fun _ _ _ H _ I h => Constant_bool ⟨.bl b, H, I, rfl, h⟩
theorem pe_non {j pos} : PE X (.Constant .none j pos) (tC .non) := fun _ _ _ H _ I h => Constant_none ⟨.non, H, I, rfl, h⟩
theorem pe_str {x j pos} : PE X (.Constant (.str x) j pos) (tC (.str x)) := fun _ _ _ H _ I h => Calls.Constant_str ⟨.str x, H, I.tok _, ⟨_, rfl⟩, h⟩

/-- a global name of the def -/
def Gl (X : Cx) (x : Str) : Prop := X.env.kindOf x = some .globalImplicit
theorem ld_glob {E : Value → Shared → Prop} {pins : List (Addr × Obj)} {s : Shared} {σ : St} {H : Hp} {x : Str} {u : Value} {pos : Pos} {Q : Value → Shared → Prop} (I : Inv X pins σ H s) (hg : Gl X x) (hm : X.mg x = some u) (h : Q u s)
    (hd : (x == ("__debug__" : Str)) = false := by decide) : wpAny (model X.prog X.w) X.A (eval (.Name x pos) X.env) Q E s :=
  Calls.Name_function_global I.ok.kind hg (Calls.loadGlobal_global (by rw [I.ok.glob]; exact I.mod.glob.keeps I.bk) hm h) hd
theorem ld_blt {E : Value → Shared → Prop} {pins : List (Addr × Obj)} {s : Shared} {σ : St} {H : Hp} {x : Str} {u : Value} {pos : Pos} {Q : Value → Shared → Prop} (I : Inv X pins σ H s) (hg : Gl X x) (hm : X.mg x = none) (hv : bootBuiltins x = some u) (h : Q u s)
    (hn : x ≠ "__name__" := by decide) (hd : (x == ("__debug__" : Str)) = false := by decide) : wpAny (model X.prog X.w) X.A (eval (.Name x pos) X.env) Q E s := by
  obtain ⟨mb, h1, h2⟩ := I.mod.blt
  exact Calls.Name_function_global I.ok.kind hg (Calls.loadGlobal_builtin (by rw [I.ok.glob]; exact I.mod.glob.keeps I.bk) hm (by rw [I.ok.blt]; exact h1.keeps I.bk) ((h2 x hn).trans hv) h) hd
/-- a module's constant, a class, a function, as a value -/
theorem pe_glob {x : Str} {v : V} {u : Value} {pos : Pos} (hg : Gl X x) (hm : X.mg x = some u) (r : RelV v u) (hd : (x == ("__debug__" : Str)) = false := by decide) : PE X (.Name x pos) (tC v) :=
  fun _ _ _ H _ I h => ld_glob I hg hm ⟨v, H, I, r, h⟩ hd
theorem pe_bltn {x : Str} {v : V} {u : Value} {pos : Pos} (hg : Gl X x) (hm : X.mg x = none) (hv : bootBuiltins x = some u) (r : RelV v u) (hn : x ≠ "__name__" := by decide) (hd : (x == ("__debug__" : Str)) = false := by decide) : PE X (.Name x pos) (tC v) :=
  fun _ _ _ H _ I h => ld_blt I hg hm hv ⟨v, H, I, r, h⟩ hn hd

/-! ### arithmetic -/
variable {a b : Expr} {ta tb : TE} {pos : Pos}
/-! ### comparisons -/
/-- a comparison as a value, as a test -/
def tB (t : TE) : TT := fun σ H Q => t σ H fun x H1 => ∃ c, x = .bl c ∧ Q c H1
/-- an expression whose value is a bool, as a test -/
theorem pt_val {e : Expr} {t : TE} (h : PE X e t) (he : ∀ whole, isTrue e X.env whole = (do let v ← whole; standAt e.pos; holding [v] (truthy v)) := by intro _; rfl) : PT X e (tB t) := by
  intro pins s σ H Q I hw
  refine isTrue_plain (thn (h pins s σ H _ I hw) fun v s1 ⟨x, H1, I1, r1, q1⟩ => ?_) (he _)
  obtain ⟨d, rfl, q⟩ := q1
  cases r1
  exact wpAny_truthy_bool ⟨H1, I1, q⟩

/-! ### and, or, not -/
variable {tA tB' : TT} {rest : List Expr}
def tOr (t u : TT) : TT := fun σ H Q => t σ H fun c H1 => if c = true then Q true H1 else u σ H1 Q
def tNot (t : TT) : TT := fun σ H Q => t σ H fun c H1 => Q (!c) H1
theorem pw_or1 (ha : PT X a tA) : PW X (.BoolOp .Or [a] pos) tA := by
  intro wh pins s σ H Q I h
  refine isTrue_or (thn (ha pins s σ H Q I h) fun c s1 e => ?_)
  cases c with
  | false => exact isTrue_or_nil e
  | true => exact e
theorem pw_or (ha : PT X a tA) (hb : PW X (.BoolOp .Or (b :: rest) pos) tB') : PW X (.BoolOp .Or (a :: b :: rest) pos) (tOr tA tB') := by
  intro wh pins s σ H Q I h
  refine isTrue_or (thn (ha pins s σ H _ I h) fun c s1 ⟨H1, I1, q1⟩ => ?_)
  cases c with
  | true => exact ⟨H1, I1, q1⟩
  | false => exact hb wh pins s1 σ H1 Q I1 q1
theorem pt_not (ha : PT X a tA) : PT X (.UnaryOp .Not a pos) (tNot tA) := by
  intro pins s σ H Q I h
  exact isTrue_not (ha pins s σ H (fun c H1 => Q (!c) H1) I h)
/-- .. as values (bools) -/
def tAndV (ta tb : TE) : TE := fun σ H Q => ta σ H fun x H1 => ∃ c, x = .bl c ∧ if c = true then tb σ H1 Q else Q (.bl false) H1
def tNotV (ta : TE) : TE := fun σ H Q => ta σ H fun x H1 => ∃ c, x = .bl c ∧ Q (.bl (!c)) H1
theorem pe_one {op} {t : TE} (h : PE X a t) : PE X (.BoolOp op [a] pos) t := fun pins s σ H Q I hw => BoolOp_one (h pins s σ H Q I hw)
theorem pe_and (ha : PE X a ta) (hb : PE X (.BoolOp .And (b :: rest) pos) tb) : PE X (.BoolOp .And (a :: b :: rest) pos) (tAndV ta tb) := by
  intro pins s σ H Q I h
  refine BoolOp_and (thn (ha pins s σ H _ I h) fun v s1 ⟨x, H1, I1, r1, q1⟩ => ?_)
  obtain ⟨c, rfl, q1⟩ := q1
  cases r1
  refine wpAny_truthy_bool ?_
  cases c with
  | true => exact hb pins s1 σ H1 Q I1 q1
  | false => exact ⟨.bl false, H1, I1, rfl, q1⟩
theorem pe_not (ha : PE X a ta) : PE X (.UnaryOp .Not a pos) (tNotV ta) := by
  intro pins s σ H Q I h
  refine UnaryOp_ (thn (ha pins s σ H _ I h) fun v s1 ⟨x, H1, I1, r1, q1⟩ => ?_)
  obtain ⟨c, rfl, q1⟩ := q1
  cases r1
  exact not_of (wpAny_truthy_bool ⟨.bl (!c), H1, I1, rfl, q1⟩)
end
end L2

namespace L2
open PySem PySem.Spec PyProof.Rows

/-! ### a list, a tuple that is read: tracked, frozen, or an object of the module -/
def SqL (K : PySem.W.Frag) (H : Hp) (a : Addr) (xs : List V) : Prop :=
  Rd H a (.lst xs) ∨
    ∃ (o : Obj) (its : Array Value) (n : Nat), K.lookup a = some o ∧ o.cls = .type "list" ∧ o.dict = none ∧ o.data = .seq its n ∧ its.size ≤ sizeLine ∧ Vals xs its.toList
def SqT (K : PySem.W.Frag) (H : Hp) (a : Addr) (xs : List V) : Prop :=
  Rd H a (.tup xs) ∨
    ∃ (o : Obj) (its : Array Value) (n : Nat), K.lookup a = some o ∧ o.cls = .type "tuple" ∧ o.data = .seq its n ∧ its.size ≤ sizeLine ∧ Vals xs its.toList
def absV : Value → Option V
  | .none => some .non
  | .bool b => some (.bl b)
  | .int i _ => some (.int i)
  | .str x _ => some (.str x)
  | .bytes b _ => some (.byt b)
  | .float b _ => some (.flt b)
  | .ref a => some (.ref a)
  | .type n => some (.ty n)
  | _ => none
theorem RelV.abs {x : V} {u : Value} (r : RelV x u) : absV u = some x := by
  cases x with
  | non => cases r; rfl
  | bl _ => cases r; rfl
  | int _ => obtain ⟨t, rfl⟩ := r; rfl
  | str _ => obtain ⟨t, rfl⟩ := r; rfl
  | byt _ => obtain ⟨t, rfl⟩ := r; rfl
  | flt _ => obtain ⟨t, rfl⟩ := r; rfl
  | ref _ => cases r; rfl
  | ty _ => cases r; rfl
theorem RelV.inj {x y : V} {u : Value} (r : RelV x u) (q : RelV y u) : x = y := Option.some.inj (r.abs.symm.trans q.abs)
theorem Vals.inj : ∀ {xs ys : List V} {us : List Value}, Vals xs us → Vals ys us → xs = ys
  | _, _, _, .nil, .nil => rfl
  | _, _, _, .cons r t, .cons r' t' => by rw [r.inj r', Vals.inj t t']
section
variable {X : Cx} {pins : List (Addr × Obj)} {σ : St} {H : Hp} {s : Shared} {a : Addr} {xs ys : List V}
theorem SqL.of {K : PySem.W.Frag} (h : H a = some (.lst xs)) : SqL K H a xs := .inl (.inl h)
theorem SqT.of {K : PySem.W.Frag} (h : H a = some (.tup xs)) : SqT K H a xs := .inl (.inl h)
theorem Inv.list (I : Inv X pins σ H s) (h : SqL X.K H a xs) : ∃ its : List Value, Vals xs its ∧ PlainL s.heap a its.toArray ∧ xs.length ≤ sizeLine := by
  rcases h with h | ⟨o, its, n, hk, hc, hd, hs, hz, r⟩
  · obtain ⟨z, its, n, r, e⟩ := h.ok I.hok
    exact ⟨its, r, ⟨_, n, e, rfl, rfl, rfl⟩, z⟩
  · refine ⟨its.toList, r, ⟨o, n, I.kIn a o hk, hc, hd, by simpa using hs⟩, ?_⟩
    have e := r.length
    simp only [Array.length_toList] at e
    omega
theorem Inv.tuple (I : Inv X pins σ H s) (h : SqT X.K H a xs) : ∃ its : List Value, Vals xs its ∧ IsTup s.heap a its.toArray ∧ xs.length ≤ sizeLine := by
  rcases h with h | ⟨o, its, n, hk, hc, hs, hz, r⟩
  · obtain ⟨z, its, r, p⟩ := h.ok I.hok
    exact ⟨its, r, p, z⟩
  · refine ⟨its.toList, r, ⟨o, I.kIn a o hk, hc, n, by simpa using hs⟩, ?_⟩
    have e := r.length
    simp only [Array.length_toList] at e
    omega
theorem Inv.list_inj (I : Inv X pins σ H s) (h : SqL X.K H a xs) (h' : SqL X.K H a ys) : xs = ys := by
  obtain ⟨its, r, ⟨o, n, e, _, _, d⟩, _⟩ := I.list h
  obtain ⟨its', r', ⟨o', n', e', _, _, d'⟩, _⟩ := I.list h'
  rw [e] at e'; cases e'
  rw [d] at d'
  injection d' with d1 _
  have : its = its' := by simpa using congrArg Array.toList d1
  subst this
  exact r.inj r'
end

/-! ### another wish about exceptions -/
abbrev Cx.wish (X : Cx) (E : Value → Shared → Prop) : Cx := { X with xe := E }
/-- no exception leaves -/
abbrev Cx.nox (X : Cx) : Cx := X.wish fun _ _ => False
theorem Cx.Ok.wish {X : Cx} (ok : X.Ok) (E : Value → Shared → Prop) : (X.wish E).Ok :=
  ⟨ok.mod, ok.kind, ok.glob, ok.blt, ok.above, ok.inj, ok.has, ok.cab, ok.hd, ok.frames, ok.stk, ok.exf, ok.bs, ok.bsz, ok.noex, ok.exfs, ok.funs, ok.frf⟩
theorem Cx.Ok.unwish {X : Cx} {E : Value → Shared → Prop} (ok : (X.wish E).Ok) : X.Ok :=
  ⟨ok.mod, ok.kind, ok.glob, ok.blt, ok.above, ok.inj, ok.has, ok.cab, ok.hd, ok.frames, ok.stk, ok.exf, ok.bs, ok.bsz, ok.noex, ok.exfs, ok.funs, ok.frf⟩
section
variable {X : Cx} {pins : List (Addr × Obj)} {σ : St} {H : Hp} {s : Shared} {E : Value → Shared → Prop}
theorem Inv.wish (I : Inv X pins σ H s) (E : Value → Shared → Prop) : Inv (X.wish E) pins σ H s := ⟨I.ok.wish E, I.os, I.bare, I.base, I.loc, I.cell, I.free, I.freeC, I.pin, I.hok, I.len⟩
theorem Inv.unwish (I : Inv (X.wish E) pins σ H s) : Inv X pins σ H s := ⟨I.ok.unwish, I.os, I.bare, I.base, I.loc, I.cell, I.free, I.freeC, I.pin, I.hok, I.len⟩
theorem SP.unwish {D : Ends} {f : Flow} {s' : Shared} (h : SP (X.wish E) pins D f s') : SP X pins D f s' := by
  cases f with
  | next => obtain ⟨σ', H', I, q⟩ := h; exact ⟨σ', H', I.unwish, q⟩
  | brk => obtain ⟨σ', H', I, q⟩ := h; exact ⟨σ', H', I.unwish, q⟩
  | cont => obtain ⟨σ', H', I, q⟩ := h; exact ⟨σ', H', I.unwish, q⟩
  | ret u => obtain ⟨v, σ', H', I, r, q⟩ := h; exact ⟨v, σ', H', I.unwish, r, q⟩
theorem PE.nox {e : Expr} {t : TE} (h : PE X.nox e t) : PE X e t := fun pins s σ H Q I hw =>
  wpAny_mono (h pins s σ H Q (I.wish _) hw) (fun _ _ ⟨v, H', I', r, q⟩ => ⟨v, H', I'.unwish, r, q⟩) fun _ _ z => False.elim z
theorem PT.nox {e : Expr} {t : TT} (h : PT X.nox e t) : PT X e t := fun pins s σ H Q I hw =>
  wpAny_mono (h pins s σ H Q (I.wish _) hw) (fun _ _ ⟨H', I', q⟩ => ⟨H', I'.unwish, q⟩) fun _ _ z => False.elim z
theorem PSs.nox {st : List Stmt} {t : TS} (h : PSs X.nox st t) : PSs X st t := fun pins s σ H D I hw =>
  wpAny_mono (h pins s σ H D (I.wish _) hw) (fun _ _ q => q.unwish) fun _ _ z => False.elim z
end

/-! ### blocks and small statements -/
section
variable {X : Cx} {st : Stmt} {rest : List Stmt} {t u : TS} {e : Expr} {te : TE} {pos : Pos}
def tNext : TS := fun D σ H => D.nx σ H
def tSeq (t u : TS) : TS := fun D σ H => t { D with nx := u D } σ H
theorem pss_nil : PSs X [] tNext := fun _ _ σ H _ I h => wpAny_execs_nil ⟨σ, H, I, h⟩
theorem pss_cons (h1 : PS X st t) (h2 : PSs X rest u) : PSs X (st :: rest) (tSeq t u) := by
  intro pins s σ H D I h
  refine wpAny_execs_cons (thn (h1 pins s σ H { D with nx := u D } I h) fun f s1 q => ?_)
  cases f with
  | next =>
    obtain ⟨σ', H', I', q⟩ := q
    exact h2 pins s1 σ' H' D I' q
  | ret v => exact q
  | brk => exact q
  | cont => exact q
theorem pss_one (h1 : PS X st t) : PSs X [st] t := by
  intro pins s σ H D I h
  refine wpAny_execs_cons (thn (h1 pins s σ H D I h) fun f s1 q => ?_)
  cases f with
  | next => exact wpAny_execs_nil q
  | ret v => exact q
  | brk => exact q
  | cont => exact q
/-- in a def's body nothing is shown -/
theorem Inv.quiet {pins : List (Addr × Obj)} {σ : St} {H : Hp} {s : Shared} (I : Inv X pins σ H s) : interactive X.env = false := by simp [interactive, I.ok.kind]
/-- an expression whose value is dropped -/
def tDrop (te : TE) : TS := fun D σ H => te σ H fun _ H1 => D.nx σ H1
theorem ps_expr (he : PE X e te) (hs : swapsWith e none pos.line X.env = pure false := by rfl) : PS X (.Expr e pos) (tDrop te) := by
  intro pins s σ H D I h
  exact wpAny_Expr_any (thn (he pins s σ H _ I h) fun v s1 ⟨x, H1, I1, r1, q1⟩ => ⟨σ, H1, I1, q1⟩) I.quiet hs
def tRet (te : TE) : TS := fun D σ H => te σ H D.rt
theorem ps_ret (he : PE X e te) : PS X (.Return (some e) pos) (tRet te) := by
  intro pins s σ H D I h
  exact wpAny_Return_some (thn (he pins s σ H _ I h) fun v s1 ⟨x, H1, I1, r1, q1⟩ => ⟨x, σ, H1, I1, r1, q1⟩)
def tIfS (c : TT) (t u : TS) : TS := fun D σ H => c σ H fun b H1 => if b = true then t D σ H1 else u D σ H1
theorem ps_if {c : Expr} {a b : List Stmt} {tc : TT} (hc : PT X c tc) (ha : PSs X a t) (hb : PSs X b u) : PS X (.If c a b pos) (tIfS tc t u) := by
  intro pins s σ H D I h
  refine wpAny_If (thn (hc pins s σ H _ I h) fun d s1 ⟨H1, I1, q1⟩ => ?_)
  cases d with
  | true => exact ha pins s1 σ H1 D I1 q1
  | false => exact hb pins s1 σ H1 D I1 q1
end

/-! ### targets -/
abbrev TG := V → St → Hp → (St → Hp → Prop) → Prop
def PG (X : Cx) (target : Expr) (t : TG) : Prop :=
  ∀ (pins : List (Addr × Obj)) (s : Shared) (σ : St) (H : Hp) (v : V) (u : Value) (Q : St → Hp → Prop), Inv X pins σ H s → RelV v u → t v σ H Q →
    wpAny (model X.prog X.w) X.A (assign target X.env u) (fun _ s' => ∃ σ' H', Inv X pins σ' H' s' ∧ Q σ' H') X.xe s
section
variable {X : Cx} {pos : Pos}
def gName (i : Nat) : TG := fun v σ H Q => Q (σ.set i (some v)) H
theorem pg_name {i : Nat} {x : Str} (hN : X.N.Nodup) (hi : X.N[i]? = some x) (hx : Loc X.env.scope x) (hf : X.fn x = true ∨ X.env.scope.names.lookup x = some .local := by first | exact .inl rfl | exact .inr rfl | assumption) : PG X (.Name x pos) (gName i) := by
  intro pins s σ H v u Q I r h
  exact wpAny_assign_Name (store_ok I hN hi hx r (fun s' I' => ⟨_, H, I', h⟩) hf)
/-- target = value -/
def tAsg (te : TE) (g : TG) : TS := fun D σ H => te σ H fun x H1 => g x σ H1 D.nx
/-- name = value -/
theorem ps_set {i : Nat} {x : Str} {e : Expr} {te : TE} {pos' : Pos} (hN : X.N.Nodup) (hi : X.N[i]? = some x) (hx : Loc X.env.scope x) (he : PE X e te) (hs : swapsWith e (some (.Name x pos')) pos.line X.env = pure false := by rfl) (hf : X.fn x = true ∨ X.env.scope.names.lookup x = some .local := by first | exact .inl rfl | exact .inr rfl | assumption) :
    PS X (.Assign [.Name x pos'] e pos) (tAsg te (gName i)) := by
  intro pins s σ H D I h
  refine wpAny_Assign_Name (thn (he pins s σ H _ I h) fun v s1 ⟨y, H1, I1, r1, q1⟩ => ?_) hs
  exact store_ok I1 hN hi hx r1 (fun s2 I2 => ⟨_, H1, I2, q1⟩) hf
end

/-! ### while -/
section
variable {X : Cx} {pos : Pos}
end

/-! ### what a loop or a comprehension walks -/
/-- at turn i: it yields x (the heap may grow), or it stops -/
structure It where
  go : Nat → Hp → Prop
  yld : Nat → Hp → V → Hp → Prop
  stop : Nat → Hp → Prop
/-- the iterator's own objects may turn: they are not the frame's, not pinned, younger than the entry (or a comprehension's own) -/
def FpOk (X : Cx) (pins : List (Addr × Obj)) (H : Hp) (b : Addr) : Prop :=
  H b = none ∧ b ≠ X.env.locals ∧ b ∉ X.fs ∧ (b ∈ X.ex ∨ X.s₀.heap.objs.size ≤ b) ∧ (∀ x c, X.env.cells.lookup x = some c → c ≠ b) ∧ ∀ p ∈ X.pn ++ pins, p.1 ≠ b
theorem Inv.fpOk {X : Cx} {pins : List (Addr × Obj)} {σ : St} {H H' : Hp} {s : Shared} {b : Addr} (I : Inv X pins σ H s) (hb : s.heap.objs.size ≤ b) (hn : H' b = none) : FpOk X pins H' b := by
  refine ⟨hn, Nat.ne_of_gt (Nat.lt_of_lt_of_le I.lt hb), I.nofs hb, .inr (Nat.le_trans I.sz hb), fun x c e z => ?_, fun p hp z => ?_⟩
  · obtain ⟨v, q⟩ := I.cell x c e
    exact absurd (Nat.lt_of_lt_of_le q.lt (by rw [z]; exact hb)) (Nat.lt_irrefl _)
  · exact absurd (Nat.lt_of_lt_of_le (Heap.lt_size (I.pin p hp).1) (by rw [z]; exact hb)) (Nat.lt_irrefl _)
structure Turn (P : Program) (w : World) (K : PySem.W.Frag) (tg : Expr) (J : It) (fp : List Addr) (it : Addr) (tn : Nat → Heap → Prop) : Prop where
  mem : it ∈ fp
  obj : ∀ i h, tn i h → ∀ b ∈ fp, ∃ o, h.get? b = some o ∧ ∀ v, o.data ≠ .cell v
  keep : ∀ i h h', tn i h → (∀ b ∈ fp, ∀ o, h.get? b = some o → h'.get? b = some o) → tn i h'
  item : ∀ (X : Cx), X.prog = P → X.w = w → X.K = K → X.calm = true → ∀ (i : Nat) (pins : List (Addr × Obj)) (s : Shared) (σ : St) (H : Hp) (E : Value → Shared → Prop), Inv X pins σ H s → (∀ b ∈ fp, FpOk X pins H b) → tn i s.heap → J.go i H →
    wpAny (model P w) X.A (pyNext (.ref it)) (fun r s1 => ∃ u, r = some u ∧
      wpAny (model P w) X.A (letOwnedTupleGo tg (.ref it) u) (fun _ s2 => ∃ x H', Inv X pins σ H' s2 ∧ RelV x u ∧ J.yld i H x H' ∧ tn (i + 1) s2.heap ∧ ∀ b ∈ fp, H' b = none) E s1) E s
  done : ∀ (X : Cx), X.prog = P → X.w = w → X.K = K → X.calm = true → ∀ (i : Nat) (pins : List (Addr × Obj)) (s : Shared) (σ : St) (H : Hp) (E : Value → Shared → Prop), Inv X pins σ H s → (∀ b ∈ fp, FpOk X pins H b) → tn i s.heap → J.stop i H →
    wpAny (model P w) X.A (pyNext (.ref it)) (fun r s1 => r = none ∧ Inv X pins σ H s1) E s
  self : ∀ (A : Around) (i : Nat) (s : Shared) (Q : Value → Shared → Prop) (E : Value → Shared → Prop), tn i s.heap → Q (.ref it) s → wpAny (model P w) A (pyIter (.ref it)) Q E s
abbrev TI := St → Hp → (It → Hp → Prop) → Prop
/-- an iterator has come -/
def PIE (X : Cx) (pins : List (Addr × Obj)) (σ : St) (tg : Expr) (R : It → Hp → Prop) (itv : Value) (s2 : Shared) : Prop :=
  ∃ (it : Addr) (fp : List Addr) (tn : Nat → Heap → Prop) (J : It) (H' : Hp), itv = .ref it ∧ Inv X pins σ H' s2 ∧ Turn X.prog X.w X.K tg J fp it tn ∧ tn 0 s2.heap ∧ (∀ b ∈ fp, FpOk X pins H' b) ∧ R J H'
def PI (X : Cx) (tg iter : Expr) (wi : TI) : Prop :=
  ∀ (pins : List (Addr × Obj)) (s : Shared) (σ : St) (H : Hp) (R : It → Hp → Prop), Inv X pins σ H s → wi σ H R →
    wpAny (model X.prog X.w) X.A (eval iter X.env) (fun v s1 => wpAny (model X.prog X.w) X.A (pyIter v) (PIE X pins σ tg R) X.xe s1) X.xe s

/-- the step ahead of the store is nothing for an iterator that keeps no tuple -/
theorem go_of {M : Model} {A : Around} {E : Value → Shared → Prop} {s : Shared} {tg : Expr} {it : Addr} {u : Value} {o : Obj} {n : String} {vs : Array Value} {Q : Unit → Shared → Prop} (ho : s.heap.get? it = some o) (hc : o.cls = .type n) (hd : o.data = .fields vs)
    (hn : ["enumerate", "zip", "dict_itemiterator", "dict_reverseitemiterator", "odict_iterator", "itertools.zip_longest", "itertools.pairwise"].contains n = false) (hQ : Q () s) : wpAny M A (letOwnedTupleGo tg (.ref it) u) Q E s := by
  unfold letOwnedTupleGo
  cases tg <;> first
    | exact wpAny_pure hQ
    | (cases u <;> first
        | exact wpAny_pure hQ
        | (refine wpAny_bind (wpAny_load ho ?_)
           rw [hc, hd]
           show wpAny M A (if (["enumerate", "zip", "dict_itemiterator", "dict_reverseitemiterator", "odict_iterator", "itertools.zip_longest", "itertools.pairwise"].contains n && vs[0]? == some (rawInt _)) = true then _ else _) Q E s
           rw [if_neg (by intro h; rw [hn, Bool.false_and] at h; cases h)]
           exact wpAny_pure hQ))

/-- the list at a, as it stands at each turn (a loop may append to it) -/
def Itl (K : PySem.W.Frag) (a : Addr) : It :=
  ⟨fun i H => ∃ xs x, SqL K H a xs ∧ xs[i]? = some x, fun i H x H' => H' = H ∧ ∀ xs, SqL K H a xs → xs[i]? = some x, fun i H => ∃ xs, SqL K H a xs ∧ xs.length ≤ i⟩
/-- lo, lo + 1, .. (n of them) -/
def Itr (lo : Int) (n : Nat) : It := ⟨fun i _ => i < n, fun i H x H' => H' = H ∧ x = .int (lo + i), fun i _ => n ≤ i⟩
theorem turn_list {P : Program} {w : World} {K : PySem.W.Frag} {tg : Expr} (a it : Addr) : Turn P w K tg (Itl K a) [it] it (fun i h => h.IsListIter it a i) where
  mem := by simp
  obj := fun i h st b hb => by
    have e : b = it := by simpa using hb
    subst e
    obtain ⟨o, e, c, d⟩ := st
    exact ⟨o, e, fun v z => by rw [d] at z; cases z⟩
  keep := fun i h h' st k => st.at fun o e => k it (by simp) o e
  item := by
    intro X hP hw hK hc i pins s σ H E I hf st hg
    subst hP hw hK
    obtain ⟨xs, x, hq, hx⟩ := hg
    obtain ⟨its, rv, p, hz⟩ := I.list hq
    obtain ⟨u, hu, ru⟩ := rv.get hx
    obtain ⟨f0, f1, f2, f3, f4, f5⟩ := hf it (by simp)
    refine wpAny_pyNext_list_item st p.isList (x := u) (by simpa using hu) fun h' st' sb => ?_
    have I1 : Inv X pins σ H { s with heap := h' } := I.turned (t' := s.toks) (fun b o hb e => (sb.2 b hb).trans e) f0 f1 f3 f4 f5
    obtain ⟨o, e, c, d⟩ := id st'
    exact ⟨u, rfl, go_of (s := { s with heap := h' }) e c d (by decide) ⟨x, H, I1, ru, ⟨rfl, fun ys hy => by rw [I.list_inj hy hq]; exact hx⟩, st', fun b hb => (hf b hb).1⟩⟩
  done := by
    intro X hP hw hK hc i pins s σ H E I hf st hg
    subst hP hw hK
    obtain ⟨xs, hq, hx⟩ := hg
    obtain ⟨its, rv, p, hz⟩ := I.list hq
    obtain ⟨f0, f1, f2, f3, f4, f5⟩ := hf it (by simp)
    have hl := rv.length
    exact wpAny_pyNext_list_end (I.ok.hd hc) st p.isList (by simp; omega) fun h' eb => ⟨rfl, I.turned (t' := s.toks) (fun b o hb e => eb b o hb e) f0 f1 f3 f4 f5⟩
  self := fun _ _ _ _ _ st h => wpAny_pyIter_listiter st h
theorem turn_range {P : Program} {w : World} {K : PySem.W.Frag} {tg : Expr} (it : Addr) (lo : Int) (n : Nat) : Turn P w K tg (Itr lo n) [it] it (fun i h => IsRangeIter h it (lo + (i : Nat) * 1) ((n : Int) - (i : Nat)) 1) where
  mem := by simp
  obj := fun i h st b hb => by
    have e : b = it := by simpa using hb
    subst e
    exact ⟨_, st, fun v z => by
      have z' : Data.fields _ = Data.cell v := z
      cases z'⟩
  keep := fun i h h' st k => k it (by simp) _ st
  item := by
    intro X hP hw hK hc i pins s σ H E I hf st hg
    subst hP hw hK
    obtain ⟨f0, f1, f2, f3, f4, f5⟩ := hf it (by simp)
    have W := Walks.range (prog := X.prog) (w := X.w) (I.ok.hd hc) it lo 1 n
    refine W.item i s _ _ hg st fun v h' tk hv st' kk => ?_
    obtain ⟨t, rfl⟩ := hv
    have I1 : Inv X pins σ H { s with heap := h', toks := tk } := I.turned (fun b o hb e => kk b o (by simpa using hb) e) f0 f1 f3 f4 f5
    refine ⟨_, rfl, go_of (s := { s with heap := h', toks := tk }) (n := "range_iterator") st' rfl rfl (by decide) ⟨.int (lo + i), H, I1, ⟨t, ?_⟩, ⟨rfl, rfl⟩, st', fun b hb => (hf b hb).1⟩⟩
    rw [Int.mul_one]
  done := by
    intro X hP hw hK hc i pins s σ H E I hf st hg
    subst hP hw hK
    obtain ⟨f0, f1, f2, f3, f4, f5⟩ := hf it (by simp)
    exact wpAny_pyNext_range_end (I.ok.hd hc) st (by have : n ≤ i := hg; omega) fun h' eb => ⟨rfl, I.turned (t' := s.toks) (fun b o hb e => eb b o hb e) f0 f1 f3 f4 f5⟩
  self := fun _ _ _ _ _ st h => wpAny_pyIter_rangeiter st h
end L2

namespace L2
open PySem PySem.Spec PyProof.Rows
section
variable {X : Cx} {tg : Expr}
def iList (K : PySem.W.Frag) (tl : TE) : TI := fun σ H R => tl σ H fun x H1 => ∃ a, x = .ref a ∧ (∃ xs, SqL K H1 a xs) ∧ R (Itl K a) H1
theorem pi_list {l : Expr} {tl : TE} (hl : PE X l tl) : PI X tg l (iList X.K tl) := by
  intro pins s σ H R I h
  refine thn (hl pins s σ H _ I h) fun v s1 ⟨x, H1, I1, r1, q1⟩ => ?_
  obtain ⟨a, e, ⟨xs, hq⟩, q⟩ := q1
  subst e
  cases r1
  obtain ⟨its, rv, p, hz⟩ := I1.list hq
  refine wpAny_pyIter_list p.isList ?_
  refine ⟨s1.heap.objs.size, [s1.heap.objs.size], _, _, H1, rfl, I1.kept (t' := s1.toks) fun b o e => Heap.get?_push_of_some _ e, turn_list a _, ⟨_, Heap.get?_push_size _ rfl, rfl, rfl⟩, fun b hb => ?_, q⟩
  have e : b = s1.heap.objs.size := by simpa using hb
  subst e
  exact I1.fpOk (Nat.le_refl _) (I1.hok.fresh (Nat.le_refl _))
/-- a range object just made, walked -/
theorem range_it {pins : List (Addr × Obj)} {σ : St} {H : Hp} {s : Shared} {R : It → Hp → Prop} {E : Value → Shared → Prop} {lo hi : Int} {t u v : Tok} {tk : Nat} (I : Inv X pins σ H s) (h1 : -(2 ^ 62) ≤ lo) (h2 : lo < 2 ^ 62) (h3 : -(2 ^ 62) ≤ hi) (h4 : hi < 2 ^ 62)
    (q : R (Itr lo (hi - lo).toNat) H) : wpAny (model X.prog X.w) X.A (pyIter (.ref s.heap.objs.size)) (PIE X pins σ tg R) E { s with heap := s.heap.push { cls := .type "range", data := .fields #[.int lo t, .int hi u, .int 1 v] }, toks := tk } := by
  refine wpAny_pyIter_range (IsRange.new ..) (small_one h1 h2 h3 h4) ?_
  have I1 : Inv X pins σ H { s with heap := s.heap.push { cls := .type "range", data := .fields #[.int lo t, .int hi u, .int 1 v] }, toks := tk } := I.kept fun b o e => Heap.get?_push_of_some _ e
  refine ⟨(s.heap.push { cls := .type "range", data := .fields #[.int lo t, .int hi u, .int 1 v] }).objs.size, [(s.heap.push { cls := .type "range", data := .fields #[.int lo t, .int hi u, .int 1 v] }).objs.size], _, _, H, rfl,
    I1.kept (t' := tk) fun b o e => Heap.get?_push_of_some _ e, turn_range _ lo (hi - lo).toNat, ?_, fun b hb => ?_, q⟩
  · have e1 : lo + ((0 : Nat) : Int) * 1 = lo := by simp
    have e2 : (((hi - lo).toNat : Nat) : Int) - ((0 : Nat) : Int) = Builtin.Range.rangeSize lo hi 1 := by rw [rangeSize_one]; split <;> omega
    show IsRangeIter _ _ (lo + ((0 : Nat) : Int) * 1) ((((hi - lo).toNat : Nat) : Int) - ((0 : Nat) : Int)) 1
    rw [e1, e2]
    exact Heap.get?_push_size _ rfl
  · have e : b = (s.heap.push { cls := .type "range", data := .fields #[.int lo t, .int hi u, .int 1 v] }).objs.size := by simpa using hb
    subst e
    exact I1.fpOk (Nat.le_refl _) (I1.hok.fresh (Nat.le_refl _))
def iRng1 (ta : TA) : TI := fun σ H R => ta σ H fun vs H1 => ∃ j : Int, vs = [.int j] ∧ -(2 ^ 62) ≤ j ∧ j < 2 ^ 62 ∧ R (Itr 0 j.toNat) H1
theorem pi_range1 {a : Expr} {ta : TA} {p pos : Pos} (hg : Gl X "range") (hm : X.mg "range" = none) (ha : PA X [a] ta) (hs : starEach [a] X.env = [(false, eval a X.env)] := by rfl) : PI X tg (.Call (.Name "range" p) [a] [] pos) (iRng1 ta) := by
  intro pins s σ H R I h
  refine Call_ (ld_blt I hg hm boot_range (PyProof.Rows.callWith_type1 (thn (ha pos pins s σ H _ I h) fun us s1 ⟨vs, H1, I1, r1, q1⟩ => ?_) hs rfl))
  obtain ⟨j, e, q1, q2, q⟩ := q1
  subst e
  cases r1 with
  | cons r rr =>
    cases rr
    obtain ⟨t, rfl⟩ := r
    exact call_range_1 (range_it I1 (by omega) (by omega) q1 q2 (by simpa using q))
/-! ### for -/
/-- W: the invariant by the turn and a measure; N: what the body is to reach -/
def tFor (wi : TI) (g : TG) (tb : TS) : TS := fun D σ H => wi σ H fun J H1 => ∃ W : Nat → Nat → St → Hp → Prop, (∃ m, W 0 m σ H1) ∧ ∀ i m σ H, W i m σ H →
  (J.stop i H ∧ D.nx σ H) ∨ (J.go i H ∧ ∃ N : St → Hp → Prop, (∀ σ' H', N σ' H' → ∃ m', m' < m ∧ W (i + 1) m' σ' H') ∧ ∀ x H', J.yld i H x H' → g x σ H' fun σ2 H2 => tb { D with nx := N, ct := N, bk := D.nx } σ2 H2)
/-- the records at fp as they stand -/
def pinsAt (fp : List Addr) (h : Heap) : List (Addr × Obj) := fp.filterMap fun b => (h.get? b).map fun o => (b, o)
theorem mem_pinsAt {fp : List Addr} {h : Heap} {b : Addr} {o : Obj} (hb : b ∈ fp) (e : h.get? b = some o) : (b, o) ∈ pinsAt fp h := List.mem_filterMap.mpr ⟨b, hb, by rw [e]; rfl⟩
theorem of_pinsAt {fp : List Addr} {h : Heap} {p : Addr × Obj} (hp : p ∈ pinsAt fp h) : p.1 ∈ fp ∧ h.get? p.1 = some p.2 := by
  obtain ⟨b, hb, e⟩ := List.mem_filterMap.mp hp
  cases q : h.get? b with
  | none => rw [q] at e; cases e
  | some o =>
    rw [q] at e
    have e' : (b, o) = p := Option.some.inj e
    subst e'
    exact ⟨hb, q⟩
theorem Inv.pinned {pins : List (Addr × Obj)} {σ : St} {H : Hp} {s : Shared} {fp : List Addr} (I : Inv X pins σ H s) (hf : ∀ b ∈ fp, FpOk X pins H b) (ho : ∀ b ∈ fp, ∃ o, s.heap.get? b = some o ∧ ∀ v, o.data ≠ .cell v) : Inv X (pins ++ pinsAt fp s.heap) σ H s :=
  I.pins_of fun p hp => (List.mem_append.mp hp).elim (fun z => I.pin p (List.mem_append_right _ z)) fun z => by
    obtain ⟨hb, e⟩ := of_pinsAt z
    obtain ⟨f0, f1, f2, _⟩ := hf p.1 hb
    obtain ⟨o, e', d⟩ := ho p.1 hb
    rw [e] at e'; cases e'
    exact ⟨e, f0, f1, f2, d⟩
theorem Inv.unpinned {pins pl : List (Addr × Obj)} {σ : St} {H : Hp} {s : Shared} (I : Inv X (pins ++ pl) σ H s) : Inv X pins σ H s := I.pins_of fun p hp => I.pin p (List.mem_append_right _ (List.mem_append_left _ hp))
theorem ps_for {iter : Expr} {body : List Stmt} {wi : TI} {g : TG} {tb : TS} {pos : Pos} (hp : PassesOwn (model X.prog X.w) X.A X.env X.xe) (hc : X.calm = true) (hi : PI X tg iter wi) (hg : PG X tg g) (hb : PSs X body tb)
    (hs : ∀ x, foldedSetIterable iter X.env x = pure x := by intro _; rfl) : PS X (.For tg iter body [] pos) (tFor wi g tb) := by
  intro pins s σ H D I h
  refine wpAny_For (thn (hi pins s σ H _ I h) fun v s1 h1 => thn h1 fun itv s2 h2 => ?_) hs
  obtain ⟨it, fp, tn, J, H2, e, I2, T, st2, f2, W, ⟨m0, w0⟩, turn⟩ := h2
  subst e
  -- what stays true of the iterator's objects through the loop
  have stat : ∀ {H' : Hp}, (∀ b ∈ fp, H' b = none) → ∀ b ∈ fp, FpOk X pins H' b := fun hn b hb => ⟨hn b hb, (f2 b hb).2⟩
  refine codeAny_forLoop_any (fun n s' => ∃ i σ' H', Inv X pins σ' H' s' ∧ tn i s'.heap ∧ (∀ b ∈ fp, H' b = none) ∧ W i n σ' H') ?_ m0 ⟨0, σ, H2, I2, st2, fun b hb => (f2 b hb).1, w0⟩
  rintro n s3 ⟨i, σ3, H3, I3, st3, fr3, w3⟩
  rcases turn i n σ3 H3 w3 with ⟨stop, qn⟩ | ⟨go, N, hN, step⟩
  · refine wpAny_passesOwn hp (thn (T.done X rfl rfl rfl hc i pins s3 σ3 H3 X.xe I3 (stat fr3) st3 stop) fun r s4 ⟨hr, I4⟩ => ?_)
    subst hr
    exact wpAny_execs_nil ⟨σ3, H3, I4, qn⟩
  · refine wpAny_passesOwn hp (thn (T.item X rfl rfl rfl hc i pins s3 σ3 H3 X.xe I3 (stat fr3) st3 go) fun r s4 ⟨u, hr, h4⟩ => ?_)
    subst hr
    refine wpAny_passesOwn hp (thn h4 fun _ s5 ⟨x, H5, I5, r5, y5, st5, fr5⟩ => ?_)
    have I5' := I5.pinned (stat fr5) (T.obj _ _ st5)
    refine wpAny_passesOwn hp (thn (hg _ s5 σ3 H5 x u _ I5' r5 (step x H5 y5)) fun _ s6 ⟨σ6, H6, I6, q6⟩ => ?_)
    refine wpAny_passesOwn hp (thn (hb _ s6 σ6 H6 _ I6 q6) fun f s7 q7 => ?_)
    have again : ∀ {σ7 : St} {H7 : Hp}, Inv X (pins ++ pinsAt fp s5.heap) σ7 H7 s7 → N σ7 H7 → ∃ m, m < n ∧ ∃ i σ' H', Inv X pins σ' H' s7 ∧ tn i s7.heap ∧ (∀ b ∈ fp, H' b = none) ∧ W i m σ' H' := fun {σ7 H7} I7 n7 => by
      obtain ⟨m', hm, w7⟩ := hN σ7 H7 n7
      refine ⟨m', hm, i + 1, σ7, H7, I7.unpinned, T.keep _ _ _ st5 fun b hb o e => (I7.pin (b, o) (List.mem_append_right _ (List.mem_append_right _ (mem_pinsAt hb e)))).1, fun b hb => ?_, w7⟩
      obtain ⟨o, e, d⟩ := T.obj _ _ st5 b hb
      exact (I7.pin (b, o) (List.mem_append_right _ (List.mem_append_right _ (mem_pinsAt hb e)))).2.1
    cases f with
    | next => obtain ⟨σ7, H7, I7, n7⟩ := q7; exact again I7 n7
    | cont => obtain ⟨σ7, H7, I7, n7⟩ := q7; exact again I7 n7
    | brk => obtain ⟨σ7, H7, I7, q7⟩ := q7; exact ⟨σ7, H7, I7.unpinned, q7⟩
    | ret v => obtain ⟨x7, σ7, H7, I7, r7, q7⟩ := q7; exact ⟨x7, σ7, H7, I7.unpinned, r7, q7⟩
end

/-! ### the forms one uses -/
/-- over a list that the body leaves as it is -/
theorem for_list {K : PySem.W.Frag} {a : Addr} {xs : List V} {g : TG} {tb : TS} {D : Ends} {σ : St} {H : Hp} (Pv : Nat → St → Hp → Prop) (h0 : Pv 0 σ H) (hl : ∀ i σ H, i ≤ xs.length → Pv i σ H → SqL K H a xs)
    (hs : ∀ i x σ H, xs[i]? = some x → Pv i σ H → g x σ H fun σ2 H2 => tb { D with nx := Pv (i + 1), ct := Pv (i + 1), bk := D.nx } σ2 H2) (hd : ∀ σ H, Pv xs.length σ H → D.nx σ H) :
    ∃ W : Nat → Nat → St → Hp → Prop, (∃ m, W 0 m σ H) ∧ ∀ i m σ H, W i m σ H →
      ((Itl K a).stop i H ∧ D.nx σ H) ∨ ((Itl K a).go i H ∧ ∃ N : St → Hp → Prop, (∀ σ' H', N σ' H' → ∃ m', m' < m ∧ W (i + 1) m' σ' H') ∧ ∀ x H', (Itl K a).yld i H x H' → g x σ H' fun σ2 H2 => tb { D with nx := N, ct := N, bk := D.nx } σ2 H2) := by
  refine ⟨fun i m σ H => m = xs.length - i ∧ i ≤ xs.length ∧ Pv i σ H, ⟨xs.length, by simp, Nat.zero_le _, h0⟩, ?_⟩
  rintro i m σ H ⟨rfl, hi, p⟩
  have q := hl i σ H hi p
  by_cases hlt : i < xs.length
  · refine .inr ⟨⟨xs, xs[i], q, by simp [hlt]⟩, Pv (i + 1), fun σ' H' p' => ⟨xs.length - (i + 1), by omega, rfl, hlt, p'⟩, fun x H' y => ?_⟩
    obtain ⟨e, y⟩ := y
    subst e
    exact hs i x σ _ (y xs q) p
  · have e : i = xs.length := by omega
    subst e
    exact .inl ⟨⟨xs, q, Nat.le_refl _⟩, hd σ H p⟩
theorem for_range {lo : Int} {n : Nat} {g : TG} {tb : TS} {D : Ends} {σ : St} {H : Hp} (Pv : Nat → St → Hp → Prop) (h0 : Pv 0 σ H)
    (hs : ∀ i σ H, i < n → Pv i σ H → g (.int (lo + i)) σ H fun σ2 H2 => tb { D with nx := Pv (i + 1), ct := Pv (i + 1), bk := D.nx } σ2 H2) (hd : ∀ σ H, Pv n σ H → D.nx σ H) :
    ∃ W : Nat → Nat → St → Hp → Prop, (∃ m, W 0 m σ H) ∧ ∀ i m σ H, W i m σ H →
      ((Itr lo n).stop i H ∧ D.nx σ H) ∨ ((Itr lo n).go i H ∧ ∃ N : St → Hp → Prop, (∀ σ' H', N σ' H' → ∃ m', m' < m ∧ W (i + 1) m' σ' H') ∧ ∀ x H', (Itr lo n).yld i H x H' → g x σ H' fun σ2 H2 => tb { D with nx := N, ct := N, bk := D.nx } σ2 H2) := by
  refine ⟨fun i m σ H => m = n - i ∧ i ≤ n ∧ Pv i σ H, ⟨n, by simp, Nat.zero_le _, h0⟩, ?_⟩
  rintro i m σ H ⟨rfl, hi, p⟩
  by_cases hlt : i < n
  · refine .inr ⟨hlt, Pv (i + 1), fun σ' H' p' => ⟨n - (i + 1), by omega, rfl, hlt, p'⟩, fun x H' y => ?_⟩
    obtain ⟨e, y⟩ := y
    subst e y
    exact hs i σ _ hlt p
  · have e : i = n := by omega
    subst e
    exact .inl ⟨Nat.le_refl _, hd σ H p⟩
end L2

namespace L2
open PySem PySem.Spec PyProof.Rows

abbrev R2 := V → V → Hp → VK → Prop
/-- a two-place operation on values: f is binaryOp op, inplaceOp op or compareOp op -/
def OpR (X : Cx) (f : Value → Value → Sem Value) (r : R2) : Prop :=
  ∀ (pins : List (Addr × Obj)) (s : Shared) (σ : St) (H : Hp) (x y : V) (v u : Value) (Q : VK), Inv X pins σ H s → RelV x v → RelV y u → r x y H Q →
    wpAny (model X.prog X.w) X.A (f v u) (EP X pins σ Q) X.xe s
/-- a call of a value that is known (a builtin, a type) with values -/
def CallR (X : Cx) (f : Value) (r : List V → Hp → VK → Prop) : Prop :=
  ∀ (pins : List (Addr × Obj)) (s : Shared) (σ : St) (H : Hp) (xs : List V) (us : List Value) (Q : VK), Inv X pins σ H s → Vals xs us → r xs H Q →
    wpAny (model X.prog X.w) X.A (call f us) (EP X pins σ Q) X.xe s
def tOp (r : R2) (ta tb : TE) : TE := fun σ H Q => ta σ H fun x H1 => tb σ H1 fun y H2 => r x y H2 Q
/-- ints in, under C, and a value out -/
def rI (C : Int → Int → Prop) (g : Int → Int → V) : R2 := fun x y H Q => ∃ i j, x = .int i ∧ y = .int j ∧ C i j ∧ Q (g i j) H
def rI0 (g : Int → Int → V) : R2 := fun x y H Q => ∃ i j, x = .int i ∧ y = .int j ∧ Q (g i j) H
section
variable {X : Cx} {a b c : Expr} {ta tb tc : TE} {pos : Pos}

theorem binT (ha : PE X a ta) (hb : PE X b tb) {pins : List (Addr × Obj)} {s : Shared} {σ : St} {H : Hp} {R : V → V → Hp → Prop} (I : Inv X pins σ H s)
    (h : ta σ H fun x H1 => tb σ H1 fun y H2 => R x y H2) {Q : Value → Shared → Prop} {f : Value → Value → Sem Value}
    (hf : ∀ v u s2 x y H2, Inv X pins σ H2 s2 → RelV x v → RelV y u → R x y H2 → wpAny (model X.prog X.w) X.A (f v u) Q X.xe s2) :
    wpAny (model X.prog X.w) X.A (eval a X.env) (fun v s₁ => wpAny (model X.prog X.w) X.A (eval b X.env) (fun u s₂ => wpAny (model X.prog X.w) X.A (f v u) Q X.xe s₂) X.xe s₁) X.xe s := by
  refine thn (ha pins s σ H _ I h) fun v s1 ⟨x, H1, I1, r1, q1⟩ => ?_
  refine thn (hb pins s1 σ H1 _ I1 q1) fun u s2 ⟨y, H2, I2, r2, q2⟩ => ?_
  exact hf v u s2 x y H2 I2 r1 r2 q2

theorem pe_op {op : Operator} {r : R2} (ho : OpR X (binaryOp op) r) (ha : PE X a ta) (hb : PE X b tb) : PE X (.BinOp a op b pos) (tOp r ta tb) := by
  intro pins s σ H Q I h
  exact wpAny_BinOp (binT ha hb I h fun v u s2 x y H2 I2 rx ry q => ho pins s2 σ H2 x y v u Q I2 rx ry q)
/-! ### ints -/
theorem opI {f : Value → Value → Sem Value} {C : Int → Int → Prop} {g : Int → Int → Int}
    (rule : ∀ (i j : Int) (t u : Tok) (s : Shared) (Q : Value → Shared → Prop) (E : Value → Shared → Prop), C i j → Q (.int (g i j) s.toks) { s with toks := s.toks + 1 } → wpAny (model X.prog X.w) X.A (f (.int i t) (.int j u)) Q E s) :
    OpR X f (rI C fun i j => .int (g i j)) := by
  intro pins s σ H x y v u Q I rx ry h
  obtain ⟨i, j, rfl, rfl, hc, q⟩ := h
  obtain ⟨t, rfl⟩ := rx
  obtain ⟨t', rfl⟩ := ry
  exact rule i j t t' s _ _ hc ⟨.int (g i j), H, I.tok _, ⟨_, rfl⟩, q⟩
theorem opI0 {f : Value → Value → Sem Value} {g : Int → Int → Int}
    (rule : ∀ (i j : Int) (t u : Tok) (s : Shared) (Q : Value → Shared → Prop) (E : Value → Shared → Prop), Q (.int (g i j) s.toks) { s with toks := s.toks + 1 } → wpAny (model X.prog X.w) X.A (f (.int i t) (.int j u)) Q E s) :
    OpR X f (rI0 fun i j => .int (g i j)) := by
  intro pins s σ H x y v u Q I rx ry h
  obtain ⟨i, j, rfl, rfl, q⟩ := h
  obtain ⟨t, rfl⟩ := rx
  obtain ⟨t', rfl⟩ := ry
  exact rule i j t t' s _ _ ⟨.int (g i j), H, I.tok _, ⟨_, rfl⟩, q⟩
theorem opB0 {f : Value → Value → Sem Value} {g : Int → Int → Bool}
    (rule : ∀ (i j : Int) (t u : Tok) (s : Shared) (Q : Value → Shared → Prop) (E : Value → Shared → Prop), Q (.bool (g i j)) s → wpAny (model X.prog X.w) X.A (f (.int i t) (.int j u)) Q E s) :
    OpR X f (rI0 fun i j => .bl (g i j)) := by
  intro pins s σ H x y v u Q I rx ry h
  obtain ⟨i, j, rfl, rfl, q⟩ := h
  obtain ⟨t, rfl⟩ := rx
  obtain ⟨t', rfl⟩ := ry
  exact rule i j t t' s _ _ ⟨.bl (g i j), H, I, rfl, q⟩

def CDiv (i j : Int) : Prop := 0 < j ∧ j < 1073741824
def CMul (i j : Int) : Prop := (-(2 ^ 64) < i ∧ i < 2 ^ 64) ∨ (-(2 ^ 64) < j ∧ j < 2 ^ 64)
theorem CMul.ok {i j : Int} (h : CMul i j) : IntMulOk i j := by
  rcases h with ⟨h1, h2⟩ | ⟨h1, h2⟩
  · exact .of_left (intBits_le_64 h1 h2)
  · exact .of_right (intBits_le_64 h1 h2)
theorem op_add : OpR X (binaryOp .Add) (rI0 fun i j => .int (i + j)) := opI0 fun _ _ _ _ _ _ _ q => add_int q
theorem op_sub : OpR X (binaryOp .Sub) (rI0 fun i j => .int (i - j)) := opI0 fun _ _ _ _ _ _ _ q => sub_int q
/-- // by a positive divisor -/
theorem op_fdiv : OpR X (binaryOp .FloorDiv) (rI CDiv fun i j => .int (i / j)) := opI fun i j _ _ _ _ _ hc q => by
  have h1 : (0 : Int) < j := hc.1
  have h2 : j < 1073741824 := hc.2
  exact floordiv_int (by omega) (by rw [Int.fdiv_eq_ediv_of_nonneg i (by omega)]; exact q) (.inl (PyProof.noPylong_small (by omega)))
/-- % by a positive divisor of any size -/
theorem op_mod : OpR X (binaryOp .Mod) (rI (fun _ j => 0 < j) fun i j => .int (i % j)) := opI fun i j _ _ _ _ _ hc q => by
  have h1 : (0 : Int) < j := hc
  exact mod_int' (by omega) (by rw [Int.fmod_eq_emod_of_nonneg i (by omega)]; exact q)
/-! ### bools among ints: n += (a < b) -/
end

/-! ### comparisons -/
/-- the scalars that == tells apart as data does -/
def scal : V → V → Bool
  | .non, .non => true | .non, .int _ => true | .int _, .non => true | .non, .bl _ => true | .bl _, .non => true | .non, .str _ => true | .str _, .non => true
  | .int _, .int _ => true | .bl _, .bl _ => true | .str _, .str _ => true | .byt _, .byt _ => true
  | .int _, .str _ => true | .str _, .int _ => true | .bl _, .str _ => true | .str _, .bl _ => true
  | _, _ => false
def rEq : R2 := fun x y H Q => scal x y = true ∧ Q (.bl (decide (x = y))) H
def rNe : R2 := fun x y H Q => scal x y = true ∧ Q (.bl (!decide (x = y))) H

theorem dec_int {i j : Int} : decide (V.int i = V.int j) = (i == j) := by
  rw [Bool.eq_iff_iff]
  simp
theorem dec_bl {i j : Bool} : decide (V.bl i = V.bl j) = (i == j) := by
  rw [Bool.eq_iff_iff]
  simp
theorem dec_str {i j : Str} : decide (V.str i = V.str j) = (i == j) := by
  rw [Bool.eq_iff_iff]
  simp
theorem dec_byt {i j : Array UInt8} : decide (V.byt i = V.byt j) = (i.toList == j.toList) := by
  rw [Bool.eq_iff_iff]
  cases i
  cases j
  simp

section
variable {X : Cx} {a b c : Expr} {ta tb tc : TE} {pos : Pos}
theorem fin_bl {pins : List (Addr × Obj)} {σ : St} {H : Hp} {s : Shared} {Q : VK} {k k' : Bool} (I : Inv X pins σ H s) (q : Q (.bl k) H) (e : k = k') : EP X pins σ Q (.bool k') s := by
  subst e
  exact ⟨.bl k, H, I, rfl, q⟩
theorem op_eq : OpR X (compareOp .Eq) rEq := by
  intro pins s σ H x y v u Q I rx ry h
  obtain ⟨hs, q⟩ := h
  cases x with
  | non =>
    cases rx
    cases y with
    | non => cases ry; exact PySem.EqNone.eq_none_none (fin_bl I q (by simp))
    | bl j => cases ry; exact PySem.EqNone.eq_none_bool (fin_bl I q (by simp))
    | int j => obtain ⟨t', rfl⟩ := ry; exact PySem.EqNone.eq_none_int (fin_bl I q (by simp))
    | str j => obtain ⟨t', rfl⟩ := ry; exact PySem.EqNone.eq_none_str (fin_bl I q (by simp))
    | _ => exact absurd (show false = true from hs) Bool.false_ne_true
  | bl i =>
    cases rx
    cases y with
    | non => cases ry; exact PySem.EqNone.eq_bool_none (fin_bl I q (by simp))
    | bl j => cases ry; exact eq_bool (fin_bl I q dec_bl)
    | str j => obtain ⟨t', rfl⟩ := ry; exact PySem.EqMixed.eq_bool_str (fin_bl I q (by simp))
    | _ => exact absurd (show false = true from hs) Bool.false_ne_true
  | int i =>
    obtain ⟨t, rfl⟩ := rx
    cases y with
    | non => cases ry; exact PySem.EqNone.eq_int_none (fin_bl I q (by simp))
    | int j => obtain ⟨t', rfl⟩ := ry; exact eq_int (fin_bl I q dec_int)
    | str j => obtain ⟨t', rfl⟩ := ry; exact PySem.EqMixed.eq_int_str (fin_bl I q (by simp))
    | _ => exact absurd (show false = true from hs) Bool.false_ne_true
  | str i =>
    obtain ⟨t, rfl⟩ := rx
    cases y with
    | non => cases ry; exact PySem.EqNone.eq_str_none (fin_bl I q (by simp))
    | bl j => cases ry; exact PySem.EqMixed.eq_str_bool (fin_bl I q (by simp))
    | int j => obtain ⟨t', rfl⟩ := ry; exact PySem.EqMixed.eq_str_int (fin_bl I q (by simp))
    | str j => obtain ⟨t', rfl⟩ := ry; exact eq_str (fin_bl I q dec_str)
    | _ => exact absurd (show false = true from hs) Bool.false_ne_true
  | byt i =>
    obtain ⟨t, rfl⟩ := rx
    cases y with
    | byt j => obtain ⟨t', rfl⟩ := ry; exact PySem.W.eq_bytes (fin_bl I q dec_byt)
    | _ => exact absurd (show false = true from hs) Bool.false_ne_true
  | _ => cases y <;> exact absurd (show false = true from hs) Bool.false_ne_true
theorem op_ne : OpR X (compareOp .NotEq) rNe := by
  intro pins s σ H x y v u Q I rx ry h
  obtain ⟨hs, q⟩ := h
  cases x with
  | non =>
    cases rx
    cases y with
    | non => cases ry; exact PySem.EqNone.ne_none_none (fin_bl I q (by simp))
    | bl j => cases ry; exact PySem.EqNone.ne_none_bool (fin_bl I q (by simp))
    | int j => obtain ⟨t', rfl⟩ := ry; exact PySem.EqNone.ne_none_int (fin_bl I q (by simp))
    | str j => obtain ⟨t', rfl⟩ := ry; exact PySem.EqNone.ne_none_str (fin_bl I q (by simp))
    | _ => exact absurd (show false = true from hs) Bool.false_ne_true
  | bl i =>
    cases rx
    cases y with
    | non => cases ry; exact PySem.EqNone.ne_bool_none (fin_bl I q (by simp))
    | bl j => cases ry; exact ne_bool (fin_bl I q (congrArg not dec_bl))
    | str j => obtain ⟨t', rfl⟩ := ry; exact PySem.EqMixed.ne_bool_str (fin_bl I q (by simp))
    | _ => exact absurd (show false = true from hs) Bool.false_ne_true
  | int i =>
    obtain ⟨t, rfl⟩ := rx
    cases y with
    | non => cases ry; exact PySem.EqNone.ne_int_none (fin_bl I q (by simp))
    | int j => obtain ⟨t', rfl⟩ := ry; exact ne_int (fin_bl I q (congrArg not dec_int))
    | str j => obtain ⟨t', rfl⟩ := ry; exact PySem.EqMixed.ne_int_str (fin_bl I q (by simp))
    | _ => exact absurd (show false = true from hs) Bool.false_ne_true
  | str i =>
    obtain ⟨t, rfl⟩ := rx
    cases y with
    | non => cases ry; exact PySem.EqNone.ne_str_none (fin_bl I q (by simp))
    | bl j => cases ry; exact PySem.EqMixed.ne_str_bool (fin_bl I q (by simp))
    | int j => obtain ⟨t', rfl⟩ := ry; exact PySem.EqMixed.ne_str_int (fin_bl I q (by simp))
    | str j => obtain ⟨t', rfl⟩ := ry; exact ne_str (fin_bl I q (congrArg not dec_str))
    | _ => exact absurd (show false = true from hs) Bool.false_ne_true
  | byt i =>
    obtain ⟨t, rfl⟩ := rx
    cases y with
    | byt j => obtain ⟨t', rfl⟩ := ry; exact PySem.W.ne_bytes (fin_bl I q (congrArg not dec_byt))
    | _ => exact absurd (show false = true from hs) Bool.false_ne_true
  | _ => cases y <;> exact absurd (show false = true from hs) Bool.false_ne_true

theorem op_lt : OpR X (compareOp .Lt) (rI0 fun i j => .bl (decide (i < j))) := opB0 fun _ _ _ _ _ _ _ q => lt_int q
theorem op_le : OpR X (compareOp .LtE) (rI0 fun i j => .bl (decide (i ≤ j))) := opB0 fun _ _ _ _ _ _ _ q => le_int q
theorem op_gt : OpR X (compareOp .Gt) (rI0 fun i j => .bl (decide (j < i))) := opB0 fun _ _ _ _ _ _ _ q => gt_int q
/-- the one string within the other -/
theorem op_in_str : OpR X (compareOp .In) (fun x y H Q => ∃ i j, x = .str i ∧ y = .str j ∧ Q (.bl (!(Builtin.Str.occurrences j i 0 j.length 1).isEmpty)) H) := by
  intro pins s σ H x y v u Q I rx ry h
  obtain ⟨i, j, rfl, rfl, q⟩ := h
  obtain ⟨t, rfl⟩ := rx
  obtain ⟨t', rfl⟩ := ry
  exact in_str (fin_bl I q rfl)

/-- is None, is not None: the right side a value none -/
theorem op_isN : OpR X (compareOp .Is) (fun x y H Q => y = .non ∧ Q (.bl (decide (x = .non))) H) := by
  intro pins s σ H x y v u Q I rx ry h
  obtain ⟨rfl, q⟩ := h
  cases ry
  refine is_none_gen (fin_bl I q ?_)
  cases x <;> first
    | (cases rx; rfl)
    | (obtain ⟨t, rfl⟩ := rx; rfl)
/-- two rules for one operation: by cases -/
theorem OpR.or {f : Value → Value → Sem Value} {r r' : R2} (h : OpR X f r) (h' : OpR X f r') : OpR X f (fun x y H Q => r x y H Q ∨ r' x y H Q) := by
  intro pins s σ H x y v u Q I rx ry q
  rcases q with q | q
  · exact h pins s σ H x y v u Q I rx ry q
  · exact h' pins s σ H x y v u Q I rx ry q

theorem nomark (b : Expr) {op : CmpOp} (h : op ≠ .In := by decide) (h2 : op ≠ .NotIn := by decide) : behindInMarks op b = false := by
  have e1 : (op == CmpOp.In) = false := by cases op <;> first | rfl | exact absurd rfl h
  have e2 : (op == CmpOp.NotIn) = false := by cases op <;> first | rfl | exact absurd rfl h2
  cases b <;> simp [behindInMarks, e1, e2]
/-- a comparison as a value; hm: nomark b, or (for in, not in) by with_unfolding_all rfl -/
theorem pe_cmpR {op : CmpOp} {r : R2} (ho : OpR X (compareOp op) r) (ha : PE X a ta) (hb : PE X b tb) (hm : behindInMarks op b = false) : PE X (.Compare a [op] [b] pos) (tOp r ta tb) := by
  intro pins s σ H Q I h
  exact wpAny_Compare1 (binT ha hb I h fun v u s2 x y H2 I2 rx ry q => ho pins s2 σ H2 x y v u Q I2 rx ry q) hm
/-- a reading of a value as a test -/
def tTest (t : TE) : TT := fun σ H Q => t σ H fun x H' => ∃ k, x = .bl k ∧ Q k H'
theorem pt_cmpR {op : CmpOp} {r : R2} (ho : OpR X (compareOp op) r) (ha : PE X a ta) (hb : PE X b tb) (hm : behindInMarks op b = false) : PT X (.Compare a [op] [b] pos) (tTest (tOp r ta tb)) := by
  intro pins s σ H Q I h
  refine wpAny_isTrue_Compare1 (thn (ha pins s σ H _ I h) fun v s1 ⟨x, H1, I1, r1, q1⟩ => thn (hb pins s1 σ H1 _ I1 q1) fun u s2 ⟨y, H2, I2, r2, q2⟩ =>
    thn (ho pins s2 σ H2 x y v u _ I2 r1 r2 q2) fun c s3 ⟨z, H3, I3, r3, k, e, q3⟩ => ?_) hm
  subst e
  cases r3
  exact wpAny_truthy_bool ⟨H3, I3, q3⟩
/-- a op1 b op2 c -/
def tChain (r r' : R2) (ta tb tc : TE) : TE := fun σ H Q => ta σ H fun x H1 => tb σ H1 fun y H2 => r x y H2 fun z H3 => ∃ k, z = .bl k ∧
  (if k = true then tc σ H3 fun w' H4 => r' y w' H4 Q else Q (.bl false) H3)
theorem pt_chain {op op' : CmpOp} {r r' : R2} (ho : OpR X (compareOp op) r) (ho' : OpR X (compareOp op') r') (ha : PE X a ta) (hb : PE X b tb) (hc : PE X c tc)
    (hm : lastMarks [op, op'] [b, c] = false := by with_unfolding_all rfl) : PT X (.Compare a [op, op'] [b, c] pos) (tTest (tChain r r' ta tb tc)) := by
  intro pins s σ H Q I h
  refine isTrue_chain (thn (ha pins s σ H _ I h) fun v s1 ⟨x, H1, I1, r1, q1⟩ => test_link (thn (hb pins s1 σ H1 _ I1 q1) fun u s2 ⟨y, H2, I2, r2, q2⟩ =>
    thn (ho pins s2 σ H2 x y v u _ I2 r1 r2 q2) fun d s3 ⟨z, H3, I3, r3, k, e, q3⟩ => ?_)) hm
  subst e
  cases r3
  refine wpAny_truthy_bool ?_
  cases k with
  | false =>
    obtain ⟨k', e', q'⟩ := q3
    cases e'
    exact ite_ff ⟨H3, I3, q'⟩
  | true =>
    refine ite_tt (test_last (thn (hc pins s3 σ H3 _ I3 q3) fun w' s4 ⟨z', H4, I4, r4, q4⟩ => thn (ho' pins s4 σ H4 y z' u w' _ I4 r2 r4 q4) fun d' s5 ⟨z2, H5, I5, r5, k2, e2, q5⟩ => ?_))
    subst e2
    cases r5
    exact wpAny_truthy_bool ⟨H5, I5, q5⟩

/-! ### truth -/
theorem line63 : (sizeLine : Nat) < 2 ^ 63 := by rw [sizeLine_eq]; decide
/-! ### strs and bytes -/
theorem op_add_str : OpR X (binaryOp .Add) (fun x y H Q => ∃ i j, x = .str i ∧ y = .str j ∧ i.length + j.length ≤ sizeLine ∧ Q (.str (i ++ j)) H) := by
  intro pins s σ H x y v u Q I rx ry h
  obtain ⟨i, j, rfl, rfl, hz, q⟩ := h
  obtain ⟨t, rfl⟩ := rx
  obtain ⟨t', rfl⟩ := ry
  exact add_str (fun t' tk => ⟨.str (i ++ j), H, I.tok _, ⟨_, rfl⟩, q⟩) hz
def PlainIxT (b : Expr) : Prop := ∀ o i, subscripted b false o i = operate [o, i] (getItem o i)
/-- s[i], 0 ≤ i < len -/
theorem pe_item_str (ha : PE X a ta) (hb : PE X b tb) (hs : PlainIxT b) :
    PE X (.Subscript a b pos) (tOp (fun x y H Q => ∃ z i c, x = .str z ∧ y = .int i ∧ 0 ≤ i ∧ i < 2 ^ 63 ∧ i < z.length ∧ z.cps[i.toNat]? = some c ∧ Q (.str ⟨#[c]⟩) H) ta tb) := by
  intro pins s σ H Q I h
  refine Subscript_ (binT ha hb I h fun v u s2 x y H2 I2 rx ry q => ?_)
  obtain ⟨z, i, c, rfl, rfl, h0, h63, h1, hc, q⟩ := q
  obtain ⟨t, rfl⟩ := rx
  obtain ⟨t', rfl⟩ := ry
  have e : seqIndex? i z.length = some i.toNat := PySem.StrLaws.seqIndex_nonneg h0 h1
  exact tail_any (typeIs_str s2 z t) slot_str_getitem.lookup (getItem_str (c := c) (by
    have e1 : decide (i < -(2 ^ 63 : Int)) = false := decide_eq_false (by omega)
    have e2 : decide (i ≥ 2 ^ 63) = false := decide_eq_false (by omega)
    rw [e1, e2] <;> rfl) (by rw [e]; exact hc) ⟨.str ⟨#[c]⟩, H2, I2.tok _, ⟨_, rfl⟩, q⟩) (hs _ _)
/-! ### scalar builtins, by CallR -/
theorem vals1 {x : V} {us : List Value} (r : Vals [x] us) : ∃ u, us = [u] ∧ RelV x u := by
  cases r with
  | cons r1 r2 => cases r2; exact ⟨_, rfl, r1⟩
theorem vals2 {x y : V} {us : List Value} (r : Vals [x, y] us) : ∃ u w', us = [u, w'] ∧ RelV x u ∧ RelV y w' := by
  cases r with
  | cons r1 r2 =>
    cases r2 with
    | cons r3 r4 => cases r4; exact ⟨_, _, rfl, r1, r3⟩
theorem call_str_int : CallR X (.type "str") (fun xs H Q => ∃ i, xs = [.int i] ∧ i.natAbs.log2 < 1920 ∧ Q (.str (toString i)) H) := by
  intro pins s σ H xs us Q I r h
  obtain ⟨i, rfl, hz, q⟩ := h
  obtain ⟨u, rfl, t, rfl⟩ := vals1 r
  exact PySem.P.str_of_int hz ⟨.str _, H, I.tok _, ⟨_, rfl⟩, q⟩
end
end L2

namespace L2
open PySem PySem.Spec PyProof.Rows

/-! ### an instance, its attributes a map -/
structure ObjM (h : Heap) (x dx C : Addr) (mA : Str → Option Value) : Prop where
  obj : h.get? x = some (PySem.W.instObj C dx)
  ns : h.Ns1 dx mA
  ne : dx ≠ x

theorem lookIn_ns {h : Heap} {dx : Addr} {mA : Str → Option Value} (n : h.Ns1 dx mA) : ∃ od, h.get? dx = some od ∧ ∀ name, PySem.W.lookIn name od = some (mA name) := by
  obtain ⟨o, es, ep, ho, hd, hk, _, hm⟩ := n
  refine ⟨o, ho, fun name => ?_⟩
  have e := hm name
  unfold nsFind findBy at e
  rw [← Array.find?_toList] at e
  unfold PySem.W.lookIn
  rw [hd]
  dsimp only
  split
  · rename_i y q
    rw [q] at e
    exact congrArg some e
  · rename_i q
    rw [q] at e
    have a : es.toList.any (·.refKey) = false := by
      rw [List.any_eq_false]
      intro y hy
      obtain ⟨z, t, hkey⟩ := hk y (Array.mem_toList_iff.mp hy)
      simp [DictEntry.refKey, hkey]
    have a' : ¬ es.toList.any (·.refKey) = true := by rw [a]; exact Bool.false_ne_true
    rw [if_neg a']
    exact congrArg some e

theorem ObjM.look {h : Heap} {x dx C : Addr} {mA : Str → Option Value} (I : ObjM h x dx C mA) : ∃ od, PySem.W.InstAt h x (PySem.W.instObj C dx) C (some od) ∧ ∀ name, PySem.W.lookIn name od = some (mA name) :=
  let ⟨od, ho, hl⟩ := lookIn_ns I.ns
  ⟨od, ⟨I.obj, rfl, rfl, ho⟩, hl⟩

section
variable {prog : Program} {w : World} {A : Around} {E : Value → Shared → Prop} {s : Shared} {K : PySem.W.Frag} {x dx C f : Addr} {mA : Str → Option Value} {name : Str} {v : Value}

end

/-! ### the attributes as a list of pairs -/
section
variable {P : Program} {w : World} {H H' : Hp} {h h' : Heap} {a C dx : Addr} {fs fs' : List (Str × V)}
theorem ins_get (hok : HOk P w H h) (e : H a = some (.ins C dx fs)) : ∃ mA, ObjM h a dx C mA ∧ (∀ f, RelO (fs.lookup f) (mA f)) ∧ PySem.Within mA (fs.map (·.1)) ∧ fs.length ≤ 1000 ∧ H dx = some (.own a) := by
  obtain ⟨d, z, ne, ob, mA, n, r, q⟩ := (show ObjOk P w H h a (.ins C dx fs) from hok a _ e)
  exact ⟨mA, ⟨ob, n, ne⟩, r, q, z, d⟩
end

/-! ### what of the text a class must have -/
structure Cls (K : PySem.W.Frag) (C : Addr) : Prop where
  pg : PySem.W.plainGet K C Str.empty = true
  hd : PySem.W.hasDictIn K C = true
  po : PySem.W.plainOver K C = true
  sa : PySem.W.findIn K (.ref C) "__setattr__" = some (some (.builtin "object.__setattr__"))
theorem Cls.get {K : PySem.W.Frag} {C : Addr} (c : Cls K C) (f : Str) : PySem.W.plainGet K C f = true := c.pg
/-- a constant of the class -/
structure Con (K : PySem.W.Frag) (C : Addr) (f : Str) (v : V) (u : Value) : Prop where
  at_ : PySem.W.findIn K (.ref C) f = some (some u)
  rel : RelV v u
  get : PySem.W.specialIn K u "__get__" = some none
  cp : PySem.W.copiedNames.contains f = false
/-- a method: a plain def of the class or of one above it -/
structure Meth (K : PySem.W.Frag) (C : Addr) (m : Str) (f : Addr) : Prop where
  at_ : PySem.W.findIn K (.ref C) m = some (some (.ref f))
  fn : PySem.W.isFn K (.ref f) = true
  kp : PySem.W.keepIn K (.ref f) = true

section
variable {X : Cx} {pins : List (Addr × Obj)} {σ : St} {H : Hp} {s : Shared} {a C dx : Addr} {fs : List (Str × V)} {f : Str} {v : V} {A : Around} {E : Value → Shared → Prop}

/-- a new instance, tracked, without attributes -/
theorem Inv.made (I : Inv X pins σ H s) : Inv X pins σ (upd (upd H s.heap.objs.size (.own (s.heap.objs.size + 1))) (s.heap.objs.size + 1) (.ins C s.heap.objs.size []))
    { s with heap := (s.heap.push PySem.W.emptyDict).push (PySem.W.instObj C s.heap.objs.size) } := by
  have e1 : (s.heap.push PySem.W.emptyDict).get? s.heap.objs.size = some PySem.W.emptyDict := Heap.get?_push_size s.heap rfl
  have e2 : ((s.heap.push PySem.W.emptyDict).push (PySem.W.instObj C s.heap.objs.size)).get? (s.heap.objs.size + 1) = some (PySem.W.instObj C s.heap.objs.size) := by
    have := Heap.get?_push_size (s.heap.push PySem.W.emptyDict) (o := PySem.W.instObj C s.heap.objs.size) rfl
    rwa [Heap.size_push] at this
  have e3 : (s.heap.push PySem.W.emptyDict).Ns s.heap.objs.size (fun _ => none) := ⟨PySem.W.emptyDict, #[], _, e1, rfl, (fun e he => absurd he (by simp)), fun _ => rfl⟩
  have I1 := I.laid (a := s.heap.objs.size) (o := .own (s.heap.objs.size + 1)) (h' := s.heap.push PySem.W.emptyDict) (t' := s.toks) (fun b u q => Heap.get?_push_of_some _ q) (Nat.le_refl _) ⟨_, e1⟩
  refine I1.laid (a := s.heap.objs.size + 1) (o := .ins C s.heap.objs.size []) (t' := s.toks) (fun b u q => Heap.get?_push_of_some _ q) (Nat.le_of_eq (Heap.size_push _ _)) ?_
  have ne : s.heap.objs.size ≠ s.heap.objs.size + 1 := Nat.ne_of_lt (Nat.lt_succ_self _)
  refine ⟨by rw [upd_ne ne, upd_same], Nat.zero_le _, ne, e2, fun _ => none, (Heap.Ns1.of_empty e3).at fun o q => Heap.get?_push_of_some _ q, fun _ => True.intro, fun y hy => absurd rfl hy⟩

end

/-! ### readings and rules -/
section
variable {X : Cx} {o e value : Expr} {f : Str} {pos pos' tpos : Pos} {ta tv : TE}
end

/-! ### isinstance -/
section
variable {X : Cx} {pins : List (Addr × Obj)} {σ : St} {H : Hp} {s : Shared} {A : Around} {E : Value → Shared → Prop} {Q : Value → Shared → Prop} {c : Value} {b : Bool}
/-- the type of a value, as the fragment's deciders take it; for an instance its class -/
inductive TyOf (K : PySem.W.Frag) (H : Hp) : V → Value → Prop where
  | non : TyOf K H .non (.type "NoneType")
  | bl (x : Bool) : TyOf K H (.bl x) (.type "bool")
  | int (i : Int) : TyOf K H (.int i) (.type "int")
  | str (x : Str) : TyOf K H (.str x) (.type "str")
  | flt (x : UInt64) : TyOf K H (.flt x) (.type "float")
  | lst {a : Addr} {xs : List V} (e : H a = some (.lst xs)) : TyOf K H (.ref a) (.type "list")
  | frz {a : Addr} {o : Obj} {xs : List V} (e : H a = some (.frz o (.lst xs))) : TyOf K H (.ref a) (.type "list")
  | tup {a : Addr} {xs : List V} (e : H a = some (.tup xs)) : TyOf K H (.ref a) (.type "tuple")
  | dK {a : Addr} {kvs : List (Key × V)} (e : H a = some (.dK kvs)) : TyOf K H (.ref a) (.type "dict")
  | dT {a : Addr} {kvs : List (List Key × V)} (e : H a = some (.dT kvs)) : TyOf K H (.ref a) (.type "dict")
  | ins {a C dx : Addr} {fs : List (Str × V)} (e : H a = some (.ins C dx fs)) (cl : Cls K C) (ha : PySem.W.findIn K (.ref C) "__class__" = some (some (.builtin "object.__class__")))
      (hn : PySem.W.specialIn K (.builtin "object.__class__") "__get__" = some (some (.builtin "getset_descriptor.__get__"))) (htk : PySem.W.takesIn K (.builtin "object.__class__") = some true)
      (hm : PySem.W.mroIn K C (.type "object") = some true) : TyOf K H (.ref a) (.ref C)
/-- isinstance(x, c) for one class c, a built-in or an own one: kitOne's answer -/
theorem isinst_ok {x : V} {u t : Value} (I : Inv X pins σ H s) (rx : RelV x u) (ty : TyOf X.K H x t) (e : PySem.W.kitOne X.K t c = some b) (h : ∀ tk, Q (.bool b) { s with toks := tk }) :
    wpAny (model X.prog X.w) A (call (.builtin "isinstance") [u, c]) Q E s := by
  cases ty with
  | non => cases (show u = Value.none from rx); exact PySem.W.kia_one PySem.W.kitx_none I.kIn True.intro e (fun z => nomatch z) h
  | bl y => cases (show u = Value.bool y from rx); exact PySem.W.kia_one PySem.W.kitx_bool I.kIn True.intro e (fun z => nomatch z) h
  | int i => obtain ⟨t, q⟩ := (show ∃ t, u = Value.int i t from rx); cases q; exact PySem.W.kia_one PySem.W.kitx_int I.kIn True.intro e (fun z => nomatch z) h
  | str y => obtain ⟨t, q⟩ := (show ∃ t, u = Value.str y t from rx); cases q; exact PySem.W.kia_one PySem.W.kitx_str I.kIn True.intro e (fun z => nomatch z) h
  | flt y => obtain ⟨t, q⟩ := (show ∃ t, u = Value.float y t from rx); cases q; exact PySem.W.kia_one PySem.W.kitx_float I.kIn True.intro e (fun z => nomatch z) h
  | @lst a xs ea =>
    cases (show u = Value.ref a from rx)
    obtain ⟨_, _, n, _, h1⟩ := (show ObjOk X.prog X.w H s.heap a (.lst xs) from I.hok a _ ea)
    exact PySem.W.kia_one PySem.W.kitx_list I.kIn ⟨_, h1, rfl⟩ e (fun z => nomatch z) h
  | @frz a ob xs ea =>
    cases (show u = Value.ref a from rx)
    obtain ⟨_, _, _, n, _, h1⟩ := (show ObjOk X.prog X.w H s.heap a (.frz ob (.lst xs)) from I.hok a _ ea)
    exact PySem.W.kia_one PySem.W.kitx_list I.kIn ⟨_, h1, rfl⟩ e (fun z => nomatch z) h
  | @tup a xs ea =>
    cases (show u = Value.ref a from rx)
    obtain ⟨_, _, _, p⟩ := (show ObjOk X.prog X.w H s.heap a (.tup xs) from I.hok a _ ea)
    obtain ⟨o, h1, h2, _⟩ := p
    exact PySem.W.kia_one PySem.W.kitx_tuple I.kIn ⟨o, h1, h2⟩ e (fun z => nomatch z) h
  | @dK a kvs ea =>
    cases (show u = Value.ref a from rx)
    obtain ⟨_, _, vs, _, p⟩ := (show ObjOk X.prog X.w H s.heap a (.dK kvs) from I.hok a _ ea)
    obtain ⟨o, es, ep, h1, h2, _⟩ := p
    exact PySem.W.kia_one PySem.W.kitx_dict I.kIn ⟨o, h1, h2.1⟩ e (fun z => nomatch z) h
  | @dT a kvs ea =>
    cases (show u = Value.ref a from rx)
    obtain ⟨_, _, xs, _, o, es, ep, h1, h2, _⟩ := (show ObjOk X.prog X.w H s.heap a (.dT kvs) from I.hok a _ ea)
    exact PySem.W.kia_one PySem.W.kitx_dict I.kIn ⟨o, h1, h2.1⟩ e (fun z => nomatch z) h
  | @ins a C dx fs ea cl ha hn htk hm =>
    cases (show u = Value.ref a from rx)
    obtain ⟨mA, O, _⟩ := ins_get I.hok ea
    obtain ⟨od, J, _⟩ := O.look
    exact PySem.W.kia_one (PySem.W.kitx_own (cl.get _) cl.hd ha hn htk hm) I.kIn J e (fun z => nomatch z) h
end
end L2

namespace L2
open PySem PySem.Spec PyProof.Rows

/-! ### room -/
structure Room (k : Nat) (A : Around) : Prop where
  hd : A.handled = none
  dp : A.depth + 3 * k + 5 < recursionLimit
  un : A.units + 16 * k + 200 < cLine
theorem Room.mono {j k : Nat} {A : Around} (r : Room k A) (h : j ≤ k) : Room j A := ⟨r.hd, by have := r.dp; omega, by have := r.un; omega⟩
theorem Room.deeper {k : Nat} {A : Around} (r : Room (k + 1) A) (env : Env) : Room k (A.deeper env) :=
  ⟨r.hd, by have := r.dp; show A.depth + 1 + 3 * k + 5 < _; omega, by have := r.un; show A.units + 3 + 16 * k + 200 < _; omega⟩
theorem Room.in1 {k : Nat} {A : Around} (r : Room (k + 1) A) : Room k A.in1 :=
  ⟨r.hd, by have := r.dp; show A.depth + 3 * k + 5 < _; omega, by have := r.un; show A.units + 1 + 16 * k + 200 < _; omega⟩
theorem Room.depth {k : Nat} {A : Around} (r : Room k A) : A.depth < recursionLimit := by have := r.dp; omega
theorem Room.units {k : Nat} {A : Around} (r : Room k A) : A.units + 64 < cLine := by have := r.un; omega
/-! ### argument lists and displays -/
def tNil : TA := fun _ H Q => Q [] H
def tCons (ta : TE) (tr : TA) : TA := fun σ H Q => ta σ H fun x H1 => tr σ H1 fun xs H2 => Q (x :: xs) H2
section
variable {X : Cx} {e : Expr} {es : List Expr} {te : TE} {t : TA} {pos : Pos}
theorem pa_nil : PA X [] tNil := fun _ _ _ _ H Q I h => Calls.spliced_nil ⟨[], H, I, .nil, h⟩
theorem pa_cons (ha : PE X e te) (hr : PA X es t) (hs : starEach (e :: es) X.env = (false, eval e X.env) :: starEach es X.env := by rfl) : PA X (e :: es) (tCons te t) := by
  intro pos pins s σ H Q I h
  rw [hs]
  show wpAny _ _ (spliced ((false, eval e X.env) :: backTo pos (starEach es X.env))) _ _ s
  refine Calls.spliced_cons (thn (ha pins s σ H _ I h) fun u s1 ⟨x, H1, I1, r1, q1⟩ => ?_)
  exact thn (hr pos pins s1 σ H1 _ I1 q1) fun us s2 ⟨xs, H2, I2, r2, q2⟩ => ⟨x :: xs, H2, I2, .cons r1 r2, q2⟩

/-- a tuple, a list of written items -/
def tTup (t : TA) : TE := fun σ H Q => t σ H fun xs H1 => xs.length ≤ sizeLine ∧ ∀ p, H1 p = none → Q (.ref p) (upd H1 p (.tup xs))
def tLst (t : TA) : TE := fun σ H Q => t σ H fun xs H1 => xs.length ≤ sizeLine ∧ ∀ p, H1 p = none → Q (.ref p) (upd H1 p (.lst xs))
theorem pe_tup {x1} (h : PA X es t) : PE X (.Tuple es x1 pos) (tTup t) := by
  intro pins s σ H Q I hq
  refine wpAny_Tuple_spliced (thn (h pos pins s σ H _ I hq) fun us s1 ⟨xs, H1, I1, r, z, q⟩ => ⟨by rw [← r.length]; exact z, ?_⟩)
  have hf : H1 s1.heap.objs.size = none := I1.hok.fresh (Nat.le_refl _)
  refine ⟨.ref s1.heap.objs.size, upd H1 s1.heap.objs.size (.tup xs), I1.laid (t' := s1.toks) (fun b u e => Heap.get?_push_of_some _ e) (Nat.le_refl _) ?_, rfl, q _ hf⟩
  exact ⟨z, us, r, ⟨_, Heap.get?_push_size _ rfl, rfl, _, rfl⟩⟩
theorem pe_lst (h : PA X es t) : PE X (.List es pos) (tLst t) := by
  intro pins s σ H Q I hq
  refine wpAny_List_spliced (thn (h pos pins s σ H _ I hq) fun us s1 ⟨xs, H1, I1, r, z, q⟩ => ⟨by rw [← r.length]; exact z, ?_⟩)
  have hf : H1 s1.heap.objs.size = none := I1.hok.fresh (Nat.le_refl _)
  refine ⟨.ref s1.heap.objs.size, upd H1 s1.heap.objs.size (.lst xs), I1.laid (t' := s1.toks) (fun b u e => Heap.get?_push_of_some _ e) (Nat.le_refl _) ?_, rfl, q _ hf⟩
  exact ⟨z, us, 0, r, Heap.get?_push_size _ rfl⟩
end

/-! ### what a def promises -/
/-- a def's promise: the bound arguments in the parameters' order, the heap, the wanted end, the wanted exception -/
abbrev Sp := List V → Hp → VK → XK → Prop
/-- how an exception lies behind a call (file 08 gives it): the callers' frames, abstract heap and state ahead of the call, the wish, the exception, the state -/
abbrev CXT := List Env → Hp → Shared → XK → Value → Shared → Prop

/-- the state at a call -/
structure Env0 (P : Program) (w : World) (K : PySem.W.Frag) (mg : Str → Option Value) (base : Heap) (A : Around) (outer : List Env) (s : Shared) (H : Hp) : Prop where
  frames : A.frames = some outer
  mod : Mod K mg base
  bs : ∀ b o, base.get? b = some o → s.heap.get? b = some o ∧ H b = none
  bsz : base.objs.size ≤ s.heap.objs.size
  funs : s.heap.FunFrames base outer
  frf : ∀ b ∈ frs outer, H b = none
  hok : HOk P w H s.heap
  bare : AllBare s.gens
/-- a call's end -/
def CE (outer : List Env) (P : Program) (w : World) (H : Hp) (s : Shared) (Q : VK) (u : Value) (s' : Shared) : Prop :=
  ∃ v H', s'.os = s.os ∧ AllBare s'.gens ∧ Un (frs outer) [] H H' s.heap s'.heap ∧ HOk P w H' s'.heap ∧ RelV v u ∧ Q v H'
def CR (CX : CXT) (outer : List Env) (P : Program) (w : World) (H : Hp) (s : Shared) (Q : VK) (E : XK) (r : Result) (s' : Shared) : Prop :=
  match r with
  | .ok (.ret u) => CE outer P w H s Q u s'
  | .ok _ => False
  | .error e => CX outer H s E e s'
structure FnOk (P : Program) (w : World) (K : PySem.W.Frag) (mg : Str → Option Value) (base : Heap) (CX : CXT) (k : Nat) (f : Addr) (fd : FuncData) (ps : List Str) (sp : Sp) : Prop where
  len : ∀ vs H Q E, sp vs H Q E → vs.length = ps.length
  run : ∀ (A : Around) (outer : List Env) (s : Shared) (H : Hp) (args : Args) (us : List Value) (vs : List V) (Q : VK) (E : XK), Room k A → Env0 P w K mg base A outer s H → BindsTo s fd args (ps.zip us) → Vals vs us → sp vs H Q E →
    codeAny (model P w) A (.call (.ref f) args) (CR CX outer P w H s Q E) s
theorem FnOk.mono {P : Program} {w : World} {K : PySem.W.Frag} {mg : Str → Option Value} {base : Heap} {CX : CXT} {j k : Nat} {f : Addr} {fd : FuncData} {ps : List Str} {sp : Sp} (F : FnOk P w K mg base CX j f fd ps sp) (h : j ≤ k) :
    FnOk P w K mg base CX k f fd ps sp := ⟨F.len, fun A outer s H args us vs Q E hr => F.run A outer s H args us vs Q E (hr.mono h)⟩
/-- a weaker promise -/
theorem FnOk.imp {P : Program} {w : World} {K : PySem.W.Frag} {mg : Str → Option Value} {base : Heap} {CX : CXT} {k : Nat} {f : Addr} {fd : FuncData} {ps : List Str} {sp sp' : Sp} (F : FnOk P w K mg base CX k f fd ps sp)
    (h : ∀ vs H Q E, sp' vs H Q E → sp vs H Q E) : FnOk P w K mg base CX k f fd ps sp' :=
  ⟨fun vs H Q E q => F.len vs H Q E (h _ _ _ _ q), fun A outer s H args us vs Q E hr he hb hv hs => F.run A outer s H args us vs Q E hr he hb hv (h _ _ _ _ hs)⟩

theorem Env0.in1 {P : Program} {w : World} {K : PySem.W.Frag} {mg : Str → Option Value} {base : Heap} {A : Around} {outer : List Env} {s : Shared} {H : Hp} (e : Env0 P w K mg base A outer s H) :
    Env0 P w K mg base A.in1 outer s H := ⟨e.frames, e.mod, e.bs, e.bsz, e.funs, e.frf, e.hok, e.bare⟩

section
variable {X : Cx} {pins : List (Addr × Obj)} {σ : St} {H : Hp} {s s' : Shared}
/-- from a body: what a callee wants -/
theorem Inv.env0 (I : Inv X pins σ H s) : Env0 X.prog X.w X.K X.mg X.base X.A X.stack s H :=
  ⟨I.ok.frames, I.ok.mod, I.bs, Nat.le_trans I.ok.bsz I.sz, I.stack, I.stkFree, I.hok, I.bare⟩
/-- behind a call -/
theorem Inv.after {Q : VK} {u : Value} (I : Inv X pins σ H s) (h : CE X.stack X.prog X.w H s Q u s') : EP X pins σ Q u s' := by
  obtain ⟨v, H', os, bare, un, hok, r, q⟩ := h
  obtain ⟨hh, g, d, t, os'⟩ := s'
  obtain rfl : os' = s.os := os
  exact ⟨v, H', I.call (h' := hh) (g' := g) (d' := d) (t' := t) (ch := []) un hok bare (fun b z => absurd z (by simp)), r, q⟩
end

/-! ### calls -/
/-- f(..): the written arguments, then the defaults dvs; E: what is wanted of an exception -/
def tCall (sp : Sp) (dvs : List V) (E : XK) (t : TA) : TE := fun σ H Q => t σ H fun vs H1 => sp (vs ++ dvs) H1 Q E
/-- how the parameters are bound: us the positional arguments, kw the keywords' values by name, ds the defaults that fill up -/
def Binds (K : PySem.W.Frag) (fd : FuncData) (ps : List Str) (ds : List Value) : Prop :=
  ∀ (s : Shared) (us : List Value), K.In s.heap → (us ++ ds).length = ps.length → BindsTo s fd ⟨us, []⟩ (ps.zip (us ++ ds))
/-- every parameter is given -/
theorem Binds.all {K : PySem.W.Frag} {fd : FuncData} {ps : List Str} (h : ∀ us : List Value, us.length = ps.length → bindArgs fd ⟨us, []⟩ = pure (ps.zip us)) : Binds K fd ps [] := fun s us _ hl => by
  rw [List.append_nil] at hl ⊢
  exact .of_eq (h us hl)

/-- an exception of a callee reaches what this body wants of exceptions -/
def Passes (CX : CXT) (X : Cx) (E : XK) : Prop := ∀ (pins : List (Addr × Obj)) (σ : St) (H : Hp) (s : Shared) (e : Value) (s' : Shared), Inv X pins σ H s → CX X.stack H s E e s' → X.xe e s'

section
variable {X : Cx} {CX : CXT} {k : Nat} {f C : Addr} {fd : FuncData} {ps : List Str} {sp : Sp} {dvs : List V} {ds : List Value} {E : XK} {x m : Str} {p pos apos : Pos} {e o : Expr} {es : List Expr} {ta : TE} {t : TA}

/-- the callee runs -/
theorem run_fn {pins : List (Addr × Obj)} {σ : St} {H : Hp} {s : Shared} {Q : VK} {us : List Value} {vs : List V} (F : FnOk X.prog X.w X.K X.mg X.base CX k f fd ps sp) (hr : Room k X.A) (hb : Binds X.K fd ps ds) (hd : Vals dvs ds) (hx : Passes CX X E)
    (I : Inv X pins σ H s) (r : Vals vs us) (h : sp (vs ++ dvs) H Q E) : wpAny (model X.prog X.w) X.A (call (.ref f) us) (EP X pins σ Q) X.xe s := by
  have r2 : Vals (vs ++ dvs) (us ++ ds) := r.append hd
  have hl : (us ++ ds).length = ps.length := by rw [← r2.length]; exact F.len _ _ _ _ h
  refine wpAny_call (codeAny_mono (F.run X.A X.stack s H ⟨us, []⟩ (us ++ ds) (vs ++ dvs) Q E hr I.env0 (hb s us I.kIn hl) r2 h) fun r s' hq => ?_)
  cases r with
  | error e => exact hx pins σ H s e s' I hq
  | ok fl =>
    cases fl with
    | ret u => exact I.after hq
    | next => exact False.elim hq
    | brk => exact False.elim hq
    | cont => exact False.elim hq

theorem pe_call (F : FnOk X.prog X.w X.K X.mg X.base CX k f fd ps sp) (hr : Room k X.A) (hg : Gl X x) (hm : X.mg x = some (.ref f)) (hk : PySem.W.keepIn X.K (.ref f) = true) (hb : Binds X.K fd ps ds) (hd : Vals dvs ds) (hx : Passes CX X E)
    (ha : PA X (e :: es) t) (hdb : (x == ("__debug__" : Str)) = false := by decide) (he : starEach (e :: es) X.env = (false, eval e X.env) :: starEach es X.env := by rfl) (hpl : (backTo pos (starEach es X.env)).any (·.1) = false := by rfl) :
    PE X (.Call (.Name x p) (e :: es) [] pos) (tCall sp dvs E t) := by
  intro pins s σ H Q I h
  refine wpAny_Call_Name_kw (ld_glob I hg hm ?_ hdb)
  refine PySem.W.callWith_K (h₀ := X.base) I.ok.mod.kin hk (thn (ha pos pins s σ H _ I h) fun us s1 ⟨vs, H1, I1, r, q⟩ => ⟨I1.kIn, ?_⟩) he hpl
  exact run_fn F hr hb hd hx I1 r q
/-- what a class must have to be made -/
structure Mk (K : PySem.W.Frag) (C f : Addr) : Prop where
  makes : PySem.W.makesIn K C = true
  init : PySem.W.findIn K (.ref C) "__init__" = some (some (.ref f))
  fn : PySem.W.isFn K (.ref f) = true
  kp : PySem.W.keepIn K (.ref C) = true

end

/-! ### keywords -/
section
variable {X : Cx} {CX : CXT} {k : Nat} {f C : Addr} {fd : FuncData} {ps ks : List Str} {sp : Sp} {E : XK} {x m : Str} {p pos apos kpos : Pos} {e o : Expr} {es : List Expr} {kws : List Keyword} {te ta : TE} {t tk : TA} {nm : Option Str}
/-- how a call with keywords binds: g puts the positional values us and the keywords' values ws (names ks) in the parameters' order, defaults among them -/
structure KBinds (K : PySem.W.Frag) (fd : FuncData) (ps ks : List Str) (g : List Value → List Value → List Value) (gV : List V → List V → List V) : Prop where
  to : ∀ (s : Shared) (us ws : List Value), K.In s.heap → (g us ws).length = ps.length → BindsTo s fd ⟨us, ks.zip ws⟩ (ps.zip (g us ws))
  rel : ∀ {vs : List V} {us : List Value} {zs : List V} {ws : List Value}, Vals vs us → Vals zs ws → Vals (gV vs zs) (g us ws)
variable {g : List Value → List Value → List Value} {gV : List V → List V → List V}
end

/-! ### a def's body keeps its promise -/
/-- names: the parameters first -/
structure FnScope (N P : List Str) (sc : Scope) : Prop where
  kind : sc.kind = .function
  co : sc.isCoroutine = false
  gen : sc.isGenerator = false
  nd : N.Nodup
  pre : N.take P.length = P
  par : ∀ x ∈ P, sc.names.lookup x = some .local ∨ sc.names.lookup x = some .cell
  nofree : ∀ y ∈ sc.names, y.2 ≠ .free

theorem bindL_out {kindOf : Str → Option NameKind} {x : Str} : ∀ {binds : List (Str × Value)} {m : Str → Option Value}, (∀ v, (x, v) ∉ binds) → bindL kindOf binds m x = m x
  | [], _, _ => rfl
  | (n, v) :: r, m, h => by
    unfold bindL
    rw [bindL_out fun w hw => h w (List.mem_cons_of_mem _ hw)]
    split
    · have : x ≠ n := by rintro rfl; exact h v List.mem_cons_self
      simp [this]
    · rfl
theorem bindC_out {kindOf : Str → Option NameKind} {x : Str} : ∀ {binds : List (Str × Value)} {m : Str → Option Value}, (∀ v, (x, v) ∉ binds) → bindC kindOf binds m x = m x
  | [], _, _ => rfl
  | (n, v) :: r, m, h => by
    unfold bindC
    rw [bindC_out fun w hw => h w (List.mem_cons_of_mem _ hw)]
    split
    · rfl
    · have : x ≠ n := by rintro rfl; exact h v List.mem_cons_self
      simp [this]
theorem bindL_get {kindOf : Str → Option NameKind} {x : Str} {v : Value} : ∀ {P : List Str} {vs : List Value} {i : Nat} {m : Str → Option Value}, P.Nodup → P[i]? = some x → vs[i]? = some v → kindOf x = some .local →
    bindL kindOf (P.zip vs) m x = some v
  | [], _, _, _, _, h, _, _ => by simp at h
  | _ :: _, [], _, _, _, _, h, _ => by simp at h
  | p :: P, w :: vs, 0, m, nd, h1, h2, hk => by
    simp at h1 h2; subst h1; subst h2
    show bindL kindOf ((p, w) :: P.zip vs) m p = _
    unfold bindL
    rw [bindL_out fun v hv => (List.nodup_cons.mp nd).1 (List.of_mem_zip hv).1, if_pos hk]
    simp
  | p :: P, w :: vs, i + 1, m, nd, h1, h2, hk => by
    show bindL kindOf ((p, w) :: P.zip vs) m x = _
    unfold bindL
    exact bindL_get (i := i) (List.nodup_cons.mp nd).2 (by simpa using h1) (by simpa using h2) hk
theorem bindC_get {kindOf : Str → Option NameKind} {x : Str} {v : Value} : ∀ {P : List Str} {vs : List Value} {i : Nat} {m : Str → Option Value}, P.Nodup → P[i]? = some x → vs[i]? = some v → kindOf x ≠ some .local →
    bindC kindOf (P.zip vs) m x = some v
  | [], _, _, _, _, h, _, _ => by simp at h
  | _ :: _, [], _, _, _, _, h, _ => by simp at h
  | p :: P, w :: vs, 0, m, nd, h1, h2, hk => by
    simp at h1 h2; subst h1; subst h2
    show bindC kindOf ((p, w) :: P.zip vs) m p = _
    unfold bindC
    rw [bindC_out fun v hv => (List.nodup_cons.mp nd).1 (List.of_mem_zip hv).1, if_neg hk]
    simp
  | p :: P, w :: vs, i + 1, m, nd, h1, h2, hk => by
    show bindC kindOf ((p, w) :: P.zip vs) m x = _
    unfold bindC
    exact bindC_get (i := i) (List.nodup_cons.mp nd).2 (by simpa using h1) (by simpa using h2) hk

/-- the names' values at the entry -/
def start (N : List Str) (vs : List V) : St := vs.map some ++ List.replicate (N.length - vs.length) none

/-- the context of a def's body, at its entry; an exception leaves the frame, then lies as CX says -/
def cxOf (CX : CXT) (P : Program) (w : World) (K : PySem.W.Frag) (mg : Str → Option Value) (base : Heap) (N : List Str) (qual : Str) (scope : Scope) (f : Addr) (cd : Value) (A : Around) (outer : List Env) (s : Shared) (H : Hp) (E : XK) : Cx where
  prog := P
  w := w
  K := K
  mg := mg
  base := base
  A := A.deeper (envOfC qual scope s.heap.objs.size f cd)
  N := N
  s₀ := s
  H₀ := H
  env := envOfC qual scope s.heap.objs.size f cd
  outer := outer
  stack := envOfC qual scope s.heap.objs.size f cd :: outer
  ex := []
  calm := true
  fn := fun _ => true
  pn := []
  xe := fun e s' => wpAny (model P w) (A.deeper (envOfC qual scope s.heap.objs.size f cd)) (leaving (envOfC qual scope s.heap.objs.size f cd) e) (fun _ s'' => CX outer H s E e s'') (fun e' s'' => CX outer H s E e' s'') s'

theorem cell_has {sc : Scope} {n : Nat} {x : Str} (h : sc.names.lookup x = some .cell) : ∃ c, (cellsFrom n sc.names []).lookup x = some c := by
  have q := PySem.W.cellsFrom_some sc.names n [] (.inl h)
  exact Option.isSome_iff_exists.mp q

theorem inv_start {CX : CXT} {P : Program} {w : World} {K : PySem.W.Frag} {mg : Str → Option Value} {base : Heap} {N ps : List Str} {qual : Str} {scope : Scope} {f : Addr} {cd : Value} {A : Around} {outer : List Env} {s s1 : Shared} {H : Hp} {E : XK} {us : List Value} {vs : List V}
    (S : FnScope N ps scope) (hd : A.handled = none) (e0 : Env0 P w K mg base A outer s H) (hl : vs.length = ps.length) (r : Vals vs us)
    (x : InCallC s s.heap.objs.size (bindL (envOfC qual scope s.heap.objs.size f cd).kindOf (ps.zip us) fun _ => none) (cellsFrom (s.heap.objs.size + 1) scope.names []) (bindC (envOfC qual scope s.heap.objs.size f cd).kindOf (ps.zip us) fun _ => none) s1) :
    Inv (cxOf CX P w K mg base N qual scope f cd A outer s H E) [] (start N vs) H s1 := by
  have hpl : ps.length ≤ N.length := by have := congrArg List.length S.pre; rw [List.length_take] at this; omega
  obtain ⟨h1, tk, rfl, hk⟩ := x.done
  have noA : ∀ b : Addr, b ∉ (cxOf CX P w K mg base N qual scope f cd A outer s H E).ex := fun b z => absurd (show b ∈ ([] : List Addr) from z) (by simp)
  refine ⟨⟨e0.mod, S.kind, rfl, rfl, Nat.le_refl _, fun y z c h1 h2 => ?_, fun y hy => ?_, fun y c _ h => ?_, fun _ => hd, Around.frames_deeper e0.frames, .inr ⟨rfl, rfl⟩, fun b z => absurd z (noA b), e0.bs, e0.bsz, fun b _ _ => noA b, fun b z => absurd z (noA b), e0.funs, e0.frf⟩,
    rfl, e0.bare, Un.kept hk, ⟨_, x.toInCall.ns, fun i y v h1 h2 h3 => ?_⟩, fun y c h => ⟨_, x.cell y c h⟩, e0.hok.fresh (Nat.le_refl _), fun y c h => ?_, fun p hp => absurd (show p ∈ ([] : List (Addr × Obj)) from hp) (by simp), e0.hok.kept hk, ?_⟩
  · exact name_of_addr x.apart (PySem.mem_of_lookup h1) (PySem.mem_of_lookup h2)
  · have hy : scope.names.lookup y = some .cell ∨ scope.names.lookup y = some .free := hy
    rcases hy with hy | hy
    · exact cell_has hy
    · exact absurd rfl (S.nofree _ (PySem.mem_of_lookup hy))
  · exact Nat.le_of_lt (x.above y c (PySem.mem_of_lookup h))
  · have hi : i < vs.length := by
      unfold start at h2
      by_cases hi : i < vs.length
      · exact hi
      · rw [List.getElem?_append_right (by simpa using hi)] at h2
        rw [List.getElem?_replicate] at h2
        split at h2 <;> cases h2
    have ha : vs[i]? = some v := by
      unfold start at h2
      rw [List.getElem?_append_left (by simpa using hi), List.getElem?_map] at h2
      cases e : vs[i]? with
      | none => rw [e] at h2; cases h2
      | some a => rw [e] at h2; cases h2; rfl
    obtain ⟨u, hu, rv⟩ := r.get ha
    have hp : ps[i]? = some y := by
      rw [← S.pre, List.getElem?_take_of_lt (by omega)]; exact h1
    have ndP : ps.Nodup := by rw [← S.pre]; exact S.nd.sublist (List.take_sublist _ _)
    refine ⟨u, rv, ?_⟩
    rcases S.par y (List.mem_of_getElem? hp) with k | k
    · exact .inl ⟨k, bindL_get ndP hp hu k⟩
    · obtain ⟨c, e⟩ := cell_has (n := s.heap.objs.size + 1) k
      refine .inr ⟨.inl k, c, e, ?_⟩
      have q := x.cell y c e
      rw [bindC_get ndP hp hu (by show scope.names.lookup y ≠ _; rw [k]; decide)] at q
      exact q
  · exact e0.hok.fresh (Nat.le_of_lt (x.above y c (PySem.mem_of_lookup h)))
  · unfold start
    show _ = N.length
    rw [List.length_append, List.length_map, List.length_replicate]
    omega

/-- THE RULE: a def (or a method) of the text, by its body. The body's reading t is chosen for each entry; it is run at the parameters' values -/
theorem fn_of {CX : CXT} {P : Program} {w : World} {K : PySem.W.Frag} {mg : Str → Option Value} {base : Heap} {k : Nat} {f : Addr} {name qual : Str} {params : Arguments} {body : List Stmt} {scope : Scope} {dV kV doc pm cdv ct oc : Value} {an od : Option Addr}
    {osl : Array (Option Value)} {N ps : List Str} {sp : Sp} (lk : K.lookup f = some ⟨oc, od, .func (PySem.W.fnOf name qual params body scope dV kV doc pm an cdv ct), osl⟩) (hcd : PySem.W.codeIn K cdv qual = true) (S : FnScope N ps scope)
    (len : ∀ vs H Q E, sp vs H Q E → vs.length = ps.length)
    (hbody : ∀ (A : Around) (outer : List Env) (s : Shared) (H : Hp) (vs : List V) (Q : VK) (E : XK), Room k (A.deeper (envOfC qual scope s.heap.objs.size f cdv)) → sp vs H Q E →
      ∃ t, PSs (cxOf CX P w K mg base N qual scope f cdv A outer s H E) body t ∧ t { nx := fun _ H' => Q .non H', rt := Q } (start N vs) H) :
    FnOk P w K mg base CX (k + 1) f (PySem.W.fnOf name qual params body scope dV kV doc pm an cdv ct) ps sp := by
  refine ⟨len, fun A outer s H args us vs Q E hr e0 hb r hsp => ?_⟩
  have hl := len _ _ _ _ hsp
  have KX : K.In s.heap := e0.mod.kin.keeps fun b o e => (e0.bs b o e).1
  have lim : s.heap.NoLimit := e0.mod.nolimit.keeps fun b o e => (e0.bs b o e).1
  have hkind : ∀ y ∈ ps.zip us, scope.names.lookup y.1 = some .local ∨ (scope.names.lookup y.1 = some .cell ∧ ((cellsFrom (s.heap.objs.size + 1) scope.names []).lookup y.1).isSome = true) := fun ⟨n, v⟩ hy => by
    rcases S.par n (List.of_mem_zip hy).1 with q | q
    · exact .inl q
    · exact .inr ⟨q, PySem.W.cellsFrom_some _ _ _ (.inl q)⟩
  refine codeAny_call_function hr.depth (KX _ _ lk) rfl S.co S.gen rfl (PySem.W.codeRec_of KX hcd) (hb _ _ _ _ ?_)
  refine wpAny_newFunctionEnv_cells S.kind hkind fun env he s1 x => ?_
  subst he
  refine ⟨lim.keeps x.toInCall.keep, codeAny_func ?_⟩
  obtain ⟨t, ht, hq⟩ := hbody A outer s H vs Q E (hr.deeper _) hsp
  have I : Inv (cxOf CX P w K mg base N qual scope f cdv A outer s H E) [] (start N vs) H s1 := inv_start S hr.hd e0 hl r x
  refine wpAny_mono (ht [] s1 (start N vs) H _ I hq) (fun fl s' hs => ?_) fun e s' hs => hs
  have fin : ∀ {σ' : St} {H' : Hp} {v : V} {u : Value}, Inv (cxOf CX P w K mg base N qual scope f cdv A outer s H E) [] σ' H' s' → RelV v u → Q v H' → CE outer P w H s Q u s' :=
    fun {σ' H' v u} J rv q => ⟨v, H', J.os, J.bare, J.base, J.hok, rv, q⟩
  cases fl with
  | ret u =>
    obtain ⟨v, σ', H', J, rv, q⟩ := hs
    exact fin J rv q
  | next =>
    obtain ⟨σ', H', J, q⟩ := hs
    exact fin (v := V.non) (u := Value.none) J rfl q
  | brk =>
    obtain ⟨_, _, _, q⟩ := hs
    exact False.elim q
  | cont =>
    obtain ⟨_, _, _, q⟩ := hs
    exact False.elim q
end L2

namespace L2
open PySem PySem.Spec PyProof.Rows
section
variable {X : Cx} {x : Str} {p pos : Pos} {e : Expr} {es : List Expr} {t : TA} {id T : String} {r : List V → Hp → VK → Prop}

def tCB (r : List V → Hp → VK → Prop) (t : TA) : TE := fun σ H Q => t σ H fun vs H1 => r vs H1 Q
/-- f(e, ..), f a built-in function -/
theorem pe_callB (hc : CallR X (.builtin id) r) (hg : Gl X x) (hm : X.mg x = none) (hv : bootBuiltins x = some (.builtin id)) (ha : PA X (e :: es) t) (hn : x ≠ "__name__" := by decide) (hdb : (x == ("__debug__" : Str)) = false := by decide)
    (he : starEach (e :: es) X.env = (false, eval e X.env) :: starEach es X.env := by rfl) (hpl : (backTo pos (starEach es X.env)).any (·.1) = false := by rfl) : PE X (.Call (.Name x p) (e :: es) [] pos) (tCB r t) := by
  intro pins s σ H Q I h
  refine wpAny_Call_Name_kw (ld_blt I hg hm hv ?_ hn hdb)
  exact PyProof.Rows.callWith_builtin1 (thn (ha pos pins s σ H _ I h) fun us s1 ⟨vs, H1, I1, r1, q1⟩ => hc pins s1 σ H1 vs us Q I1 r1 q1) he hpl
/-- T(e, ..), T a built-in type -/
theorem pe_callTy (hc : CallR X (.type T) r) (hg : Gl X x) (hm : X.mg x = none) (hv : bootBuiltins x = some (.type T)) (ha : PA X (e :: es) t) (hn : x ≠ "__name__" := by decide) (hdb : (x == ("__debug__" : Str)) = false := by decide)
    (he : starEach (e :: es) X.env = (false, eval e X.env) :: starEach es X.env := by rfl) (hpl : (backTo pos (starEach es X.env)).any (·.1) = false := by rfl) : PE X (.Call (.Name x p) (e :: es) [] pos) (tCB r t) := by
  intro pins s σ H Q I h
  refine wpAny_Call_Name_kw (ld_blt I hg hm hv ?_ hn hdb)
  exact PyProof.Rows.callWith_type1 (thn (ha pos pins s σ H _ I h) fun us s1 ⟨vs, H1, I1, r1, q1⟩ => hc pins s1 σ H1 vs us Q I1 r1 q1) he hpl
end
end L2

namespace HT
open PySem PyProof.Rows

/-- t < u of tuples of ints -/
def lexLt : List Int → List Int → Bool
  | [], [] => false
  | [], _ :: _ => true
  | _ :: _, [] => false
  | x :: xs, y :: ys => if x = y then lexLt xs ys else decide (x < y)
section
open PySem.SeqAt
open PySem.AutoSeq1 (wpAny_loadPart')
open PySem.MeetsSeq PySem.MeetsSeq2 PySem.MeetsSeq3

end

section
variable {prog : Program} {w : World} {A : Around} {E : Value → Shared → Prop} {s : Shared}

/-! ### t[a:b], not the whole -/
/-- a slice's bound as a place among n (d where it is left out) -/
def sIx (n d : Nat) : Option Int → Nat
  | none => d
  | some v => if v < 0 then (v + (n : Int)).toNat else min v.toNat n
theorem sIx_none (n d : Nat) : sIx n d none = d := rfl
theorem sIx_nat (n d k : Nat) : sIx n d (some (k : Int)) = min k n := by
  show (if (k : Int) < 0 then ((k : Int) + (n : Int)).toNat else min (k : Int).toNat n) = min k n
  rw [if_neg (by omega), Int.toNat_natCast]
end
end HT

namespace L2
open PySem PySem.Spec PyProof.Rows

/-! ### the parts of a slice -/
abbrev TO := St → Hp → (Option Int → Hp → Prop) → Prop
/-- a slice's part (left out, or an int) -/
def PO (X : Cx) (e : Option Expr) (t : TO) : Prop :=
  ∀ (pins : List (Addr × Obj)) (s : Shared) (σ : St) (H : Hp) (Q : Option Int → Hp → Prop), Inv X pins σ H s → t σ H Q →
    wpAny (model X.prog X.w) X.A (evalPart e X.env) (fun u s' => ∃ o H', Inv X pins σ H' s' ∧ IsPart u o ∧ Q o H') X.xe s
def tNoPart : TO := fun _ H Q => Q none H
def tPart (t : TE) : TO := fun σ H Q => t σ H fun x H1 => ∃ i, x = .int i ∧ Q (some i) H1

theorem intsAre_of {ns : List Int} : ∀ {us : List Value}, Vals (ns.map V.int) us → IntsAre us ns := by
  induction ns with
  | nil => intro us r; rw [List.map_nil] at r; cases r; exact .nil
  | cons n ns ih =>
    intro us r
    rw [List.map_cons] at r
    cases r with
    | cons r1 r2 =>
      obtain ⟨t, e⟩ := r1
      subst e
      exact .cons n t (ih r2)

section
variable {X : Cx} {e : Expr} {te : TE} {lo hi : Option Expr} {tl th : TO} {pos p2 : Pos}

theorem po_none : PO X none tNoPart := by
  intro pins s σ H Q I h
  rw [evalPart_none]
  exact wpAny_pure ⟨none, H, I, .none, h⟩
theorem po_some (h : PE X e te) : PO X (some e) (tPart te) := by
  intro pins s σ H Q I hw
  rw [evalPart_some]
  refine thn (h pins s σ H _ I hw) fun u s1 ⟨x, H1, I1, r1, q1⟩ => ?_
  obtain ⟨i, rfl, q⟩ := q1
  obtain ⟨t, rfl⟩ := r1
  exact ⟨some i, H1, I1, .int i t, q⟩

/-- what a slice of a value is, by values: the slice object stands at sl -/
def SlR (X : Cx) (r : V → Option Int → Option Int → Hp → VK → Prop) : Prop :=
  ∀ (pins : List (Addr × Obj)) (s : Shared) (σ : St) (H : Hp) (x : V) (v vl vu : Value) (lo hi : Option Int) (sl : Addr) (Q : VK), Inv X pins σ H s → RelV x v → s.heap.IsSliceOf sl vl vu .none → IsPart vl lo → IsPart vu hi → r x lo hi H Q →
    ∃ T id, typeLookup (.type T) "__getitem__" = pure (some (.builtin id)) ∧ s.TypeIs v T ∧ wpAny (model X.prog X.w) X.A (getItem v (.ref sl)) (EP X pins σ Q) X.xe s
theorem SlR.or {r r' : V → Option Int → Option Int → Hp → VK → Prop} (h : SlR X r) (h' : SlR X r') : SlR X (fun x lo hi H Q => r x lo hi H Q ∨ r' x lo hi H Q) := by
  intro pins s σ H x v vl vu lo hi sl Q I rx hs pl pu q
  rcases q with q | q
  · exact h pins s σ H x v vl vu lo hi sl Q I rx hs pl pu q
  · exact h' pins s σ H x v vl vu lo hi sl Q I rx hs pl pu q
def tSl (r : V → Option Int → Option Int → Hp → VK → Prop) (te : TE) (tl th : TO) : TE := fun σ H Q => te σ H fun x H1 => tl σ H1 fun l H2 => th σ H2 fun u H3 => r x l u H3 Q
/-- a[lo:hi], any a -/
theorem pe_slice {r : V → Option Int → Option Int → Hp → VK → Prop} (hr : SlR X r) (he : PE X e te) (hl : PO X lo tl) (hu : PO X hi th) : PE X (.Subscript e (.Slice lo hi none p2) pos) (tSl r te tl th) := by
  intro pins s σ H Q I h
  refine Subscript_ (thn (he pins s σ H _ I h) fun v s1 ⟨x, H1, I1, r1, q1⟩ => ?_)
  refine wpAny_Slice (thn (hl pins s1 σ H1 _ I1 q1) fun vl s2 ⟨l, H2, I2, pl, q2⟩ => thn (hu pins s2 σ H2 _ I2 q2) fun vu s3 ⟨u, H3, I3, pu, q3⟩ => ?_)
  rw [evalPart_none]
  refine wpAny_pure ?_
  have I4 : Inv X pins σ H3 { s3 with heap := s3.heap.push { cls := .type "slice", data := .fields #[vl, vu, .none] } } := I3.kept (t' := s3.toks) fun b ob q => Heap.get?_push_of_some _ q
  obtain ⟨T, id, hT, ht, hg⟩ := hr pins { s3 with heap := s3.heap.push { cls := .type "slice", data := .fields #[vl, vu, .none] } } σ H3 x v vl vu l u s3.heap.objs.size Q I4 r1 (Heap.IsSliceOf.new ..) pl pu q3
  show wpAny (model X.prog X.w) X.A (subscriptTail e (.Slice lo hi none p2) v (.ref s3.heap.objs.size)) (EP X pins σ Q) X.xe { s3 with heap := s3.heap.push { cls := .type "slice", data := .fields #[vl, vu, .none] } }
  exact tail_any (ops := [.ref s3.heap.objs.size, v]) ht hT hg (by with_unfolding_all rfl)

/-- the items of xs[lo:hi] -/
def cutV (xs : List V) (lo hi : Option Int) : List V := (xs.drop (HT.sIx xs.length 0 lo)).take (HT.sIx xs.length xs.length hi - HT.sIx xs.length 0 lo)
theorem cutV_length (xs : List V) (lo hi : Option Int) : (cutV xs lo hi).length ≤ xs.length := by
  unfold cutV
  rw [List.length_take, List.length_drop]
  omega
/-! ### t < u, t + u -/
end
end L2

namespace L2
open PySem PySem.Spec PyProof.Rows

/-! ### places -/
/-- the place that an index of any sign means -/
def ixN (n : Nat) (i : Int) : Option Nat := if 0 ≤ i then (if i < n then some i.toNat else none) else if -(n : Int) ≤ i then some (i + n).toNat else none
def atI {α : Type} (xs : List α) (i : Int) : Option α := (ixN xs.length i).bind fun j => xs[j]?
theorem ixN_seq {n : Nat} {i : Int} {j : Nat} (h : ixN n i = some j) : seqIndex? i n = some j ∧ j < n ∧ -(n : Int) ≤ i ∧ i < n := by
  unfold ixN at h
  by_cases h0 : 0 ≤ i
  · rw [if_pos h0] at h
    by_cases h1 : i < n
    · rw [if_pos h1] at h
      have e : i.toNat = j := Option.some.inj h
      exact ⟨by rw [seqIndex_of h0 h1, e], by omega, by omega, h1⟩
    · rw [if_neg h1] at h; cases h
  · rw [if_neg h0] at h
    by_cases h1 : -(n : Int) ≤ i
    · rw [if_pos h1] at h
      have e : (i + n).toNat = j := Option.some.inj h
      exact ⟨by rw [seqIndex_neg (by omega) h1, e], by omega, h1, by omega⟩
    · rw [if_neg h1] at h; cases h
theorem atI_get {α : Type} {xs : List α} {i : Int} {v : α} (h : atI xs i = some v) : ∃ j, seqIndex? i xs.length = some j ∧ xs[j]? = some v ∧ j < xs.length ∧ -(xs.length : Int) ≤ i ∧ i < xs.length := by
  unfold atI at h
  cases e : ixN xs.length i with
  | none => rw [e] at h; cases h
  | some j =>
    rw [e] at h
    obtain ⟨h1, h2, h3, h4⟩ := ixN_seq e
    exact ⟨j, h1, h, h2, h3, h4⟩
theorem atI_nat {α : Type} {xs : List α} {j : Nat} {v : α} (h : xs[j]? = some v) : atI xs (j : Int) = some v := by
  have hj : j < xs.length := (List.getElem?_eq_some_iff.mp h).1
  have e : ixN xs.length (j : Int) = some j := by
    unfold ixN
    rw [if_pos (by omega), if_pos (by omega)]; simp
  unfold atI; rw [e]; exact h
/-! ### what may be subscripted -/
/-- what stands as an index of a plain subscript -/
def PlainIx (b : Expr) : Prop := ∀ o i, subscripted b false o i = operate [o, i] (getItem o i)
/-- a subscript by values -/
def IxR (X : Cx) (r : R2) : Prop :=
  ∀ (value slice : Expr) (pins : List (Addr × Obj)) (s : Shared) (σ : St) (H : Hp) (x y : V) (v u : Value) (Q : VK), Inv X pins σ H s → RelV x v → RelV y u → r x y H Q →
    subscripted slice false v u = operate [v, u] (getItem v u) → wpAny (model X.prog X.w) X.A (subscriptTail value slice v u) (EP X pins σ Q) X.xe s
/-- a call of a builtin's method by values: the receiver, the arguments -/
def MtR (X : Cx) (id : String) (r : V → List V → Hp → VK → Prop) : Prop :=
  ∀ (pins : List (Addr × Obj)) (s : Shared) (σ : St) (H : Hp) (x : V) (xs : List V) (v : Value) (us : List Value) (Q : VK), Inv X pins σ H s → RelV x v → Vals xs us → r x xs H Q →
    wpAny (model X.prog X.w) X.A (call (.builtin id) (v :: us)) (EP X pins σ Q) X.xe s
section
variable {X : Cx} {a b : Expr} {ta tb : TE} {pos : Pos}
theorem IxR.or {r r' : R2} (h : IxR X r) (h' : IxR X r') : IxR X (fun x y H Q => r x y H Q ∨ r' x y H Q) := by
  intro value slice pins s σ H x y v u Q I rx ry q hs
  rcases q with q | q
  · exact h value slice pins s σ H x y v u Q I rx ry q hs
  · exact h' value slice pins s σ H x y v u Q I rx ry q hs
theorem MtR.or {id : String} {r r' : V → List V → Hp → VK → Prop} (h : MtR X id r) (h' : MtR X id r') : MtR X id (fun x xs H Q => r x xs H Q ∨ r' x xs H Q) := by
  intro pins s σ H x xs v us Q I rx rs q
  rcases q with q | q
  · exact h pins s σ H x xs v us Q I rx rs q
  · exact h' pins s σ H x xs v us Q I rx rs q
/-- a[b] -/
theorem pe_ix {r : R2} (hr : IxR X r) (ha : PE X a ta) (hb : PE X b tb) (hs : PlainIx b) : PE X (.Subscript a b pos) (tOp r ta tb) := by
  intro pins s σ H Q I h
  exact Subscript_ (binT ha hb I h fun v u s2 x y H2 I2 rx ry q => hr a b pins s2 σ H2 x y v u Q I2 rx ry q (hs _ _))

def rIxL (K : PySem.W.Frag) : R2 := fun x y H Q => ∃ p xs i v, x = .ref p ∧ y = .int i ∧ SqL K H p xs ∧ atI xs i = some v ∧ Q v H
def rIxT (K : PySem.W.Frag) : R2 := fun x y H Q => ∃ p xs i v, x = .ref p ∧ y = .int i ∧ SqT K H p xs ∧ atI xs i = some v ∧ Q v H
theorem ix_list : IxR X (rIxL X.K) := by
  intro value slice pins s σ H x y v u Q I rx ry h hs
  obtain ⟨p, xs, i, z, rfl, rfl, hq, he, q⟩ := h
  cases rx
  obtain ⟨t, rfl⟩ := ry
  obtain ⟨its, r, pl, hz⟩ := I.list hq
  obtain ⟨j, h1, h2, h3, h4, h5⟩ := atI_get he
  obtain ⟨w, ew, rw'⟩ := r.get h2
  have hl := r.length
  have hn := line63
  have fin : EP X pins σ Q w s := ⟨z, H, I, rw', q⟩
  by_cases h0 : 0 ≤ i
  · have hj : i.toNat = j := by
      rw [seqIndex_of h0 h5] at h1
      exact Option.some.inj h1
    exact item_listR pl.isList h0 (by omega) (by rw [hj]; simpa using ew) fin hs
  · have hj : (i + (its.toArray.size : Int)).toNat = j := by
      rw [seqIndex_neg (by omega) h4] at h1
      rw [List.size_toArray, ← hl]
      exact Option.some.inj h1
    exact subscriptTail_builtinR (x := w) pl.isList.typeIs slot_list_getitem.lookup
      (wpAny_getItem_list_neg (Q := fun r s' => r = w ∧ EP X pins σ Q r s') pl.isList (by omega) (by rw [List.size_toArray] <;> omega) (by omega) (by rw [hj]; simpa using ew) ⟨rfl, fin⟩) hs
theorem ix_tup : IxR X (rIxT X.K) := by
  intro value slice pins s σ H x y v u Q I rx ry h hs
  obtain ⟨p, xs, i, z, rfl, rfl, hq, he, q⟩ := h
  cases rx
  obtain ⟨t, rfl⟩ := ry
  obtain ⟨its, r, pl, hz⟩ := I.tuple hq
  obtain ⟨j, h1, h2, h3, h4, h5⟩ := atI_get he
  obtain ⟨w, ew, rw'⟩ := r.get h2
  have hl := r.length
  have hn := line63
  have fin : EP X pins σ Q w s := ⟨z, H, I, rw', q⟩
  exact subscriptTail_builtinR (x := w) pl.typeIs slot_tuple_getitem.lookup
    (getItem_tuple (j := j) (Q := fun r s' => r = w ∧ EP X pins σ Q r s') pl (by omega) (by omega) (by rw [List.size_toArray, ← hl]; exact h1) (by simpa using ew) ⟨rfl, fin⟩) hs
/-! ### xs[i] = v, any sign -/
theorem Inv.lst {pins : List (Addr × Obj)} {σ : St} {H : Hp} {s : Shared} {p : Addr} {xs : List V} (I : Inv X pins σ H s) (h : H p = some (.lst xs)) :
    ∃ (its : List Value) (n : Nat), Vals xs its ∧ s.heap.get? p = some { cls := .type "list", data := .seq its.toArray n } ∧ xs.length ≤ sizeLine := by
  obtain ⟨z, its, n, r, e⟩ := I.hok p _ h
  exact ⟨its, n, r, e, z⟩
/-! ### slices -/
theorem slice_bounds (lo hi : Option Int) (n : Nat) : (sliceBounds lo hi none n).1 = ((HT.sIx n 0 lo : Nat) : Int) ∧ (sliceBounds lo hi none n).2.1 = ((HT.sIx n n hi : Nat) : Int) ∧ (sliceBounds lo hi none n).2.2 = 1 := by
  refine ⟨?_, ?_, rfl⟩
  · cases lo with
    | none => simp [sliceBounds, HT.sIx]
    | some i =>
      simp only [sliceBounds, HT.sIx, Option.getD_none, show (1 : Int) > 0 by decide, if_true]
      by_cases h : i < 0
      · simp only [h, if_true] <;> omega
      · simp only [h, if_false] <;> omega
  · cases hi with
    | none => simp [sliceBounds, HT.sIx]
    | some i =>
      simp only [sliceBounds, HT.sIx, Option.getD_none, show (1 : Int) > 0 by decide, if_true]
      by_cases h : i < 0
      · simp only [h, if_true] <;> omega
      · simp only [h, if_false] <;> omega
theorem slicePick_cut (its : List Value) (lo hi : Option Int) : slicePick its.toArray lo hi none = ((its.drop (HT.sIx its.length 0 lo)).take (HT.sIx its.length its.length hi - HT.sIx its.length 0 lo)).toArray := by
  obtain ⟨h1, h2, h3⟩ := slice_bounds lo hi its.toArray.size
  unfold slicePick
  rw [h1, h2, h3]
  simp only [sliceRange_one, pick_run, List.size_toArray] <;> rfl
/-- xs[lo:hi] of a list: a new list -/
def rSlL (K : PySem.W.Frag) : V → Option Int → Option Int → Hp → VK → Prop := fun x lo hi H Q => ∃ a xs, x = .ref a ∧ SqL K H a xs ∧ ∀ p, H p = none → Q (.ref p) (upd H p (.lst (cutV xs lo hi)))
theorem sl_list : SlR X (rSlL X.K) := by
  intro pins s σ H x v vl vu lo hi sl Q I rx hs pl pu h
  obtain ⟨a, xs, rfl, hx, q⟩ := h
  cases rx
  obtain ⟨its, r, ht, hz⟩ := I.list hx
  have hlen := r.length
  refine ⟨"list", _, slot_list_getitem.lookup, ht.isList.typeIs, ?_⟩
  refine wpAny_getItem_list_slice ht.isList hs pl pu .none (by simp) ?_ (by rw [List.size_toArray] <;> omega)
  rw [slicePick_cut, ← hlen]
  refine ⟨.ref s.heap.objs.size, _, I.laid (t' := s.toks) (o := .lst (cutV xs lo hi)) (fun b ob q => Heap.get?_push_of_some _ q) (Nat.le_refl _) ?_, rfl, q _ (I.hok.fresh (Nat.le_refl _))⟩
  exact ⟨Nat.le_trans (cutV_length xs lo hi) hz, _, 0, (r.drop (HT.sIx xs.length 0 lo)).take (HT.sIx xs.length xs.length hi - HT.sIx xs.length 0 lo), Heap.get?_push_size _ rfl⟩

/-! ### in, not in: flat items -/
def flatV : V → Bool
  | .non => true
  | .bl _ => true
  | .int _ => true
  | .str _ => true
  | _ => false
/-- == of flat values -/
def eqV : V → V → Bool
  | .non, .non => true
  | .bl a, .bl b => a == b
  | .bl a, .int b => (if a then 1 else 0) == b
  | .int a, .bl b => a == (if b then 1 else 0)
  | .int a, .int b => a == b
  | .str a, .str b => a == b
  | _, _ => false
theorem eqAt_V {A : Around} {s : Shared} {y x : V} {u v : Value} (ry : RelV y u) (rx : RelV x v) (fy : flatV y = true) (fx : flatV x = true) : SeqAt.EqAt A s u v (eqV y x) := by
  cases y with
  | non =>
    cases ry
    cases x with
    | non => cases rx; exact SeqAt.EqAt.same _
    | bl b => cases rx; exact SeqAt.EqAt.none_bool b
    | int b => obtain ⟨t, rfl⟩ := rx; exact SeqAt.EqAt.none_int b t
    | str b => obtain ⟨t, rfl⟩ := rx; exact SeqAt.EqAt.none_str b t
    | _ => exact absurd (show false = true from fx) Bool.false_ne_true
  | bl a =>
    cases ry
    cases x with
    | non => cases rx; exact SeqAt.EqAt.bool_none a
    | bl b => cases rx; exact SeqAt.EqAt.bool_bool a b
    | int b => obtain ⟨t, rfl⟩ := rx; exact SeqAt.EqAt.bool_int a b t
    | str b => obtain ⟨t, rfl⟩ := rx; exact SeqAt.EqAt.bool_str a b t
    | _ => exact absurd (show false = true from fx) Bool.false_ne_true
  | int a =>
    obtain ⟨t', rfl⟩ := ry
    cases x with
    | non => cases rx; exact SeqAt.EqAt.int_none a t'
    | bl b => cases rx; exact SeqAt.EqAt.int_bool a t' b
    | int b => obtain ⟨t, rfl⟩ := rx; exact SeqAt.EqAt.int_int a t' b t
    | str b => obtain ⟨t, rfl⟩ := rx; exact SeqAt.EqAt.int_str a t' b t
    | _ => exact absurd (show false = true from fx) Bool.false_ne_true
  | str a =>
    obtain ⟨t', rfl⟩ := ry
    cases x with
    | non => cases rx; exact SeqAt.EqAt.str_none a t'
    | bl b => cases rx; exact SeqAt.EqAt.str_bool a t' b
    | int b => obtain ⟨t, rfl⟩ := rx; exact SeqAt.EqAt.str_int a t' b t
    | str b => obtain ⟨t, rfl⟩ := rx; exact SeqAt.EqAt.str_str a t' b t
    | _ => exact absurd (show false = true from fx) Bool.false_ne_true
  | _ => exact absurd (show false = true from fy) Bool.false_ne_true
/-- the items' answers, read off the values (a value's own answer does not lean on its token) -/
def eqU (x : V) (u : Value) : Bool := match u with
  | .none => eqV .non x
  | .bool b => eqV (.bl b) x
  | .int i _ => eqV (.int i) x
  | .str z _ => eqV (.str z) x
  | _ => false
theorem eqU_of {x y : V} {u : Value} (r : RelV y u) (f : flatV y = true) : eqU x u = eqV y x := by
  cases y with
  | non => cases r; rfl
  | bl b => cases r; rfl
  | int i => obtain ⟨t, rfl⟩ := r; rfl
  | str z => obtain ⟨t, rfl⟩ := r; rfl
  | _ => exact absurd (show false = true from f) Bool.false_ne_true
theorem any_eqU {x : V} : ∀ {xs : List V} {us : List Value}, Vals xs us → xs.all flatV = true → us.any (eqU x) = xs.any fun y => eqV y x
  | _, _, .nil, _ => rfl
  | y :: xs, u :: us, .cons r t, f => by
    rw [List.all_cons, Bool.and_eq_true] at f
    rw [List.any_cons, List.any_cons, eqU_of r f.1, any_eqU t f.2]
theorem mem_eqAt {A : Around} {s : Shared} {x : V} {v : Value} (rx : RelV x v) (fx : flatV x = true) : ∀ {xs : List V} {us : List Value}, Vals xs us → xs.all flatV = true → ∀ u ∈ us, SeqAt.EqAt A s u v (eqU x u)
  | _, _, .nil, _ => fun u hu => by cases hu
  | y :: xs, u :: us, .cons r t, f => fun u' hu => by
    rw [List.all_cons, Bool.and_eq_true] at f
    rcases List.mem_cons.mp hu with rfl | hu
    · rw [eqU_of r f.1]; exact eqAt_V r rx f.1 fx
    · exact mem_eqAt rx fx t f.2 u' hu
def inV (x : V) (xs : List V) : Bool := xs.any fun y => eqV y x
/-- x in a list or tuple of flat items -/
def rIn (K : PySem.W.Frag) (neg : Bool) : R2 := fun x y H Q => ∃ p xs, y = .ref p ∧ (SqL K H p xs ∨ SqT K H p xs) ∧ flatV x = true ∧ xs.all flatV = true ∧ Q (.bl (if neg then !inV x xs else inV x xs)) H
theorem op_in_seq : OpR X (compareOp .In) (rIn X.K false) := by
  intro pins s σ H x y v u Q I rx ry h
  obtain ⟨p, xs, rfl, hq, fx, fs, q⟩ := h
  cases ry
  rcases hq with hq | hq
  · obtain ⟨its, r, pl, hz⟩ := I.list hq
    refine SeqAt.in_listAt (eqU x) pl.isList (fun w hw => mem_eqAt rx fx r fs w (by simpa using hw)) ⟨.bl _, H, I, rfl, ?_⟩
    rw [show its.toArray.any (eqU x) = its.any (eqU x) by simp, any_eqU r fs]
    exact q
  · obtain ⟨its, r, pl, hz⟩ := I.tuple hq
    refine SeqAt.in_tupleAt (eqU x) pl (fun w hw => mem_eqAt rx fx r fs w (by simpa using hw)) ⟨.bl _, H, I, rfl, ?_⟩
    rw [show its.toArray.any (eqU x) = its.any (eqU x) by simp, any_eqU r fs]
    exact q
theorem op_notIn_str : OpR X (compareOp .NotIn) (fun x y H Q => ∃ i j, x = .str i ∧ y = .str j ∧ Q (.bl (!(!(Builtin.Str.occurrences j i 0 j.length 1).isEmpty))) H) := by
  intro pins s σ H x y v u Q I rx ry h
  obtain ⟨i, j, rfl, rfl, q⟩ := h
  obtain ⟨t, rfl⟩ := rx
  obtain ⟨t', rfl⟩ := ry
  exact notIn_str ⟨.bl _, H, I, rfl, q⟩

/-! ### len, list(x), tuple(x) of any list or tuple that is read -/
theorem call_len_seq : CallR X (.builtin "len") (fun xs H Q => ∃ p ys, xs = [.ref p] ∧ (SqL X.K H p ys ∨ SqT X.K H p ys) ∧ Q (.int ys.length) H) := by
  intro pins s σ H xs us Q I r h
  obtain ⟨p, ys, rfl, hq, q⟩ := h
  obtain ⟨u, rfl, rx⟩ := vals1 r
  cases rx
  have hn := line63
  rcases hq with hq | hq
  · obtain ⟨its, r', pl, hz⟩ := I.list hq
    have hlen := r'.length
    exact Calls.call_len_list pl.isList (by simp only [List.size_toArray] <;> omega) ⟨.int ys.length, H, I.tok _, ⟨s.toks + 1, by rw [List.size_toArray, hlen]⟩, q⟩
  · obtain ⟨its, r', pl, hz⟩ := I.tuple hq
    have hlen := r'.length
    exact len_tuple pl (by simp only [List.size_toArray] <;> omega) ⟨.int ys.length, H, I.tok _, ⟨s.toks + 1, by rw [List.size_toArray, hlen]⟩, q⟩
theorem call_len_str : CallR X (.builtin "len") (fun xs H Q => ∃ z, xs = [.str z] ∧ z.length ≤ sizeLine ∧ Q (.int z.length) H) := by
  intro pins s σ H xs us Q I r h
  obtain ⟨z, rfl, hz, q⟩ := h
  obtain ⟨u, rfl, t, rfl⟩ := vals1 r
  have hn := line63
  exact len_str (by omega) ⟨.int z.length, H, I.tok _, ⟨_, rfl⟩, q⟩
theorem CallR.or {f : Value} {r r' : List V → Hp → VK → Prop} (h : CallR X f r) (h' : CallR X f r') : CallR X f (fun xs H Q => r xs H Q ∨ r' xs H Q) := by
  intro pins s σ H xs us Q I rs q
  rcases q with q | q
  · exact h pins s σ H xs us Q I rs q
  · exact h' pins s σ H xs us Q I rs q
theorem call_list_of : CallR X (.type "list") (fun xs H Q => ∃ p ys, xs = [.ref p] ∧ (SqL X.K H p ys ∨ SqT X.K H p ys) ∧ ∀ l, H l = none → Q (.ref l) (upd H l (.lst ys))) := by
  intro pins s σ H xs us Q I r h
  obtain ⟨p, ys, rfl, hq, q⟩ := h
  obtain ⟨u, rfl, rx⟩ := vals1 r
  cases rx
  have fin : ∀ (its : List Value), Vals ys its → ys.length ≤ sizeLine → ∀ (h' : Heap) (c' : Nat), (∀ b o', s.heap.get? b = some o' → h'.get? b = some o') →
      h'.get? s.heap.objs.size = some { cls := .type "list", dict := none, data := .seq its.toArray c', slots := #[] } → EP X pins σ Q (.ref s.heap.objs.size) { s with heap := h' } := fun its r' hz h' c' kp e =>
    ⟨.ref s.heap.objs.size, _, I.laid (t' := s.toks) kp (Nat.le_refl _) (show ObjOk X.prog X.w _ h' _ (.lst ys) from ⟨hz, its, c', r', e⟩), rfl, q _ (I.hok.fresh (Nat.le_refl _))⟩
  rcases hq with hq | hq
  · obtain ⟨its, r', pl, hz⟩ := I.list hq
    have hlen := r'.length
    obtain ⟨o, ho, hc, n, hd⟩ := pl.isList
    exact call_list_seq p (.inl rfl) ho hc hd (fun h' c' kp e => fin its r' hz h' c' kp e) (by simp only [List.size_toArray] <;> omega)
  · obtain ⟨its, r', pl, hz⟩ := I.tuple hq
    have hlen := r'.length
    obtain ⟨o, ho, hc, n, hd⟩ := pl
    exact call_list_seq p (.inr rfl) ho hc hd (fun h' c' kp e => fin its r' hz h' c' kp e) (by simp only [List.size_toArray] <;> omega)
/-! ### the call of a builtin's method: o.m(..) -/
/-- the value is of that builtin type -/
def tyV (K : PySem.W.Frag) (T : String) (x : V) (H : Hp) : Prop := match x with
  | .str _ => T = "str"
  | .int _ => T = "int"
  | .ref p => (T = "list" ∧ ∃ xs, SqL K H p xs) ∨ (T = "tuple" ∧ ∃ o, K.lookup p = some o ∧ o.cls = .type "tuple" ∧ o.dict = none) ∨
      (T = "dict" ∧ ((∃ kvs, H p = some (.dK kvs)) ∨ ∃ kvs, H p = some (.dT kvs))) ∨ (T = "set" ∧ ∃ S n, H p = some (.set S n))
  | _ => False
theorem tyV_is {pins : List (Addr × Obj)} {σ : St} {H : Hp} {s : Shared} {T : String} {x : V} {v : Value} (I : Inv X pins σ H s) (r : RelV x v) (ty : tyV X.K T x H) :
    s.TypeIs v T ∧ ∀ a, v = .ref a → ∃ ob, s.heap.get? a = some ob ∧ ob.dict = none := by
  cases x with
  | str z =>
    obtain ⟨t, rfl⟩ := r
    cases (show T = "str" from ty)
    exact ⟨typeIs_str s z t, fun _ e => nomatch e⟩
  | int i =>
    obtain ⟨t, rfl⟩ := r
    cases (show T = "int" from ty)
    exact ⟨typeIs_int s i t, fun _ e => nomatch e⟩
  | ref p =>
    cases r
    rcases ty with ⟨rfl, xs, hq⟩ | ⟨rfl, o, hk, hc, hd⟩ | ⟨rfl, hk⟩ | ⟨rfl, S, n, hk⟩
    · obtain ⟨its, _, pl, _⟩ := I.list hq
      refine ⟨pl.isList.typeIs, fun a e => ?_⟩
      cases e
      obtain ⟨o, n, e, c, hd, _⟩ := pl
      exact ⟨o, e, hd⟩
    · refine ⟨⟨o, I.kIn p o hk, hc⟩, fun a e => ?_⟩
      cases e
      exact ⟨o, I.kIn _ o hk, hd⟩
    · have z : ∃ o, s.heap.get? p = some o ∧ o.ExactDict := by
        rcases hk with ⟨kvs, hk⟩ | ⟨kvs, hk⟩
        · obtain ⟨_, _, _, _, o, _, _, e, ex, _⟩ := I.hok p _ hk
          exact ⟨o, e, ex⟩
        · obtain ⟨_, _, _, _, o, _, _, e, ex, _⟩ := I.hok p _ hk
          exact ⟨o, e, ex⟩
      obtain ⟨o, e, ex⟩ := z
      refine ⟨⟨o, e, ex.1⟩, fun a e2 => ?_⟩
      cases e2
      exact ⟨o, e, ex.2.1⟩
    · obtain ⟨o, _, _, _, e, ex, _⟩ := I.hok p _ hk
      refine ⟨⟨o, e, ex.1⟩, fun a e2 => ?_⟩
      cases e2
      exact ⟨o, e, ex.2.1⟩
  | _ => exact False.elim ty
def tBM (K : PySem.W.Frag) (T : String) (r : V → List V → Hp → VK → Prop) (to : TE) (t : TA) : TE := fun σ H Q => to σ H fun x H1 => tyV K T x H1 ∧ t σ H1 fun xs H2 => r x xs H2 Q
variable {o e : Expr} {es : List Expr} {to : TE} {t : TA} {name : Str} {apos cpos : Pos} {T id : String} {r : V → List V → Hp → VK → Prop}
theorem pe_bm (pa : PlainAttrs T) (slot : Slot T name id) (hty : typeOf (.builtin id) = pure (.type "method_descriptor")) (hm : MtR X id r) (ho : PE X o to) (ha : PA X (e :: es) t)
    (hbase : attributeBase o name X.env (eval o X.env) = eval o X.env := by rfl)
    (hfew : ((backTo cpos (starEach (e :: es) X.env)).all (fun x => !x.1) && (backToKw cpos (keywordEach [] X.env)).all (fun x => x.1.isSome)
      && decide ((e :: es).length + ([] : List Keyword).length + (if ([] : List Keyword).isEmpty then 0 else 1) < 30)) = true := by rfl)
    (hline : (apos.endLine == cpos.line) = true := by rfl) (hs : starEach (e :: es) X.env = (false, eval e X.env) :: starEach es X.env := by rfl) (hplain : (backTo cpos (starEach es X.env)).any (·.1) = false := by rfl) :
    PE X (.Call (.Attribute o name apos) (e :: es) [] cpos) (tBM X.K T r to t) := by
  intro pins s σ H Q I h
  refine wpAny_Call_method_late hbase hfew hline rfl (thn (ho pins s σ H _ I h) fun v s1 ⟨x, H1, I1, r1, ty, q1⟩ => ?_)
  obtain ⟨h1, h2⟩ := tyV_is I1 r1 ty
  refine ⟨T, id, pa, slot, hty, h1, h2, ?_⟩
  have hA := ha cpos pins s1 σ H1 _ I1 q1
  rw [hs] at hA ⊢
  refine Calls.callWith_builtin (by show (false || (backTo cpos (starEach es X.env)).any (·.1)) = false; rw [hplain] <;> rfl) (Calls.evalArgs_plain ?_)
  exact thn hA fun us s2 ⟨vs, H2, I2, r2, q2⟩ => hm pins s2 σ H2 x vs v us Q I2 r1 r2 q2
/- xs.append(e), list.index on a module's tuple .. are MtR facts of 06m -/
end
end L2

namespace L2
open PySem PySem.Spec PyProof.Rows

def MtM (X : Cx) (id : String) (r : V → List V → Hp → VK → Prop) : Prop :=
  ∀ (pins : List (Addr × Obj)) (s : Shared) (σ : St) (H : Hp) (x : V) (xs : List V) (v : Value) (us : List Value) (Q : VK), Inv X pins σ H s → RelV x v → Vals xs us → r x xs H Q →
    wpAny (model X.prog X.w) X.A (call (.builtin id) (v :: us)) (EP X pins σ Q) X.xe s

/-! ### lists of values -/
theorem Vals.one : ∀ {x : V} {us : List Value}, Vals [x] us → ∃ u, us = [u] ∧ RelV x u
  | _, _, .cons r .nil => ⟨_, rfl, r⟩
theorem Vals.two : ∀ {x y : V} {us : List Value}, Vals [x, y] us → ∃ u v, us = [u, v] ∧ RelV x u ∧ RelV y v
  | _, _, _, .cons r (.cons q .nil) => ⟨_, _, rfl, r, q⟩
theorem Vals.zero : ∀ {us : List Value}, Vals [] us → us = []
  | _, .nil => rfl
theorem Vals.eraseIdx : ∀ {xs : List V} {us : List Value} (i : Nat), Vals xs us → Vals (xs.eraseIdx i) (us.eraseIdx i)
  | _, _, _, .nil => .nil
  | _, _, 0, .cons _ t => t
  | _, _, i + 1, .cons r t => .cons r (Vals.eraseIdx i t)
section
variable {X : Cx} {pins : List (Addr × Obj)} {σ : St} {H : Hp} {s : Shared} {l b : Addr} {xs ys zs : List V}

/-! ### the two steps: a tracked list is rewritten, a new list is laid -/
theorem Inv.lset {its its' : List Value} {n : Nat} {f : Array Value → Array Value} {t' : Nat} (I : Inv X pins σ H s) (hH : H l = some (.lst xs))
    (e : s.heap.get? l = some { cls := .type "list", data := .seq its.toArray n }) (hf : f its.toArray = its'.toArray) (hv : Vals ys its') (hz : ys.length ≤ sizeLine) :
    Inv X pins σ (upd H l (.lst ys)) { s with heap := s.heap.update l (Obj.mapSeq f), toks := t' } := by
  have q := PySem.IsL.update e f
  rw [hf] at q
  refine I.write (x := l) (e := l) (by rw [hH]; exact trivial) (.inl rfl) (fun b' u hb hu => (Heap.get?_update_other s.heap (Obj.mapSeq f) (Ne.symm hb)).trans hu) ⟨_, q⟩ ?_
  exact ⟨hz, its', _, hv, q⟩
theorem Inv.lnew {its : List Value} {t' : Nat} (I : Inv X pins σ H s) (hv : Vals ys its) (hz : ys.length ≤ sizeLine) :
    Inv X pins σ (upd H s.heap.objs.size (.lst ys)) { s with heap := s.heap.push { cls := .type "list", data := .seq its.toArray }, toks := t' } :=
  I.laid (fun _ _ q => Heap.get?_push_of_some _ q) (Nat.le_refl _) ⟨hz, its, 0, hv, Heap.get?_push_size _ rfl⟩
theorem Inv.fresh (I : Inv X pins σ H s) : H s.heap.objs.size = none := I.hok.fresh (Nat.le_refl _)
theorem Inv.lstM (I : Inv X pins σ H s) (hH : H l = some (.lst xs)) : xs.length ≤ sizeLine ∧ ∃ (its : List Value) (n : Nat), Vals xs its ∧ xs.length = its.length ∧ s.heap.get? l = some { cls := .type "list", data := .seq its.toArray n } := by
  obtain ⟨z, its, n, r, e⟩ := I.hok l _ hH
  exact ⟨z, its, n, r, r.length, e⟩

end

section
variable {X : Cx}

/-! ### methods -/
def rAppend : V → List V → Hp → VK → Prop := fun x vs H Q => ∃ l xs y, x = .ref l ∧ vs = [y] ∧ H l = some (.lst xs) ∧ xs.length < sizeLine ∧ Q .non (upd H l (.lst (xs ++ [y])))
theorem mt_append : MtM X "list.append" rAppend := by
  intro pins s σ H x vs v us Q I rx rv h
  obtain ⟨l, xs, y, rfl, rfl, hH, hz, q⟩ := h
  cases rx
  obtain ⟨u, rfl, ru⟩ := rv.one
  obtain ⟨z, its, n, r, hl, e⟩ := I.lstM hH
  refine call_meets F.slot_list_append ⟨_, e, rfl⟩ F.entry_list_append (F.args_list_append_2 _ _) (PySem.list_append l its.toArray n u (by rw [List.size_toArray]; omega)) ⟨e, ?_⟩
  refine ⟨.non, _, I.lset (its' := its ++ [u]) hH e (by simp) (r.append (.cons ru .nil)) ?_, rfl, q⟩
  rw [List.length_append, List.length_singleton]
  omega

/-! ### list + list, list += list, list * int -/
def rCat : R2 := fun x y H Q => ∃ l b xs zs, x = .ref l ∧ y = .ref b ∧ H l = some (.lst xs) ∧ H b = some (.lst zs) ∧ xs.length + zs.length ≤ sizeLine ∧ ∀ p, H p = none → Q (.ref p) (upd H p (.lst (xs ++ zs)))
theorem op_cat : OpR X (binaryOp .Add) rCat := by
  intro pins s σ H x y v u Q I rx ry h
  obtain ⟨l, b, xs, zs, rfl, rfl, hH, hB, hz, q⟩ := h
  cases rx
  cases ry
  obtain ⟨z, its, n, r, hl, e⟩ := I.lstM hH
  obtain ⟨z2, its2, n2, r2, hl2, e2⟩ := I.lstM hB
  refine PySem.P.add_list e e2 ?_ (by rw [List.size_toArray, List.size_toArray]; omega)
  have ea : its.toArray ++ its2.toArray = (its ++ its2).toArray := by simp
  rw [ea]
  exact ⟨.ref _, _, I.lnew (t' := s.toks) (r.append r2) (by rw [List.length_append]; omega), rfl, q _ I.fresh⟩
/-! ### del xs[i] -/
end

/-! ### xs[a:b] = ys -/
section
variable {prog : Program} {w : World} {A : Around} {E : Value → Shared → Prop} {s : Shared}
end

section
variable {X : Cx}
end
end L2

namespace Att
open PySem PySem.W PySem.Calls PyProof.Rows

/-! ### the script -/
theorem ints_of_wellAll {P : Params} {h : Heap} : ∀ (ns : List Int) (vs : List Value), WellAll P h vs (ns.map WData.int) → IntsAre vs ns := by
  intro ns
  induction ns with
  | nil =>
    intro vs w
    rw [List.map_nil] at w
    cases w
    exact .nil
  | cons n ns ih =>
    intro vs w
    rw [List.map_cons] at w
    cases w with
    | cons a b =>
      cases a
      exact .cons _ _ (ih _ b)

theorem script_of {l : OpenLaw} {n : Nat} (hn : l.most = some n) {P : Params} {h : Heap} {args : List WData} {vals : List Value}
    (hpre : l.row.toRowW.claim.pre args = true) (hwl : WellAll P h vals args) :
    ∃ a vs ns, vals = [Value.ref a] ∧ args = [WData.list (ns.map WData.int)] ∧ h.get? a = some { cls := .type "list", data := .seq vs.toArray } ∧ IntsAre vs ns ∧ ns.length ≤ n := by
  have hsh : WShape.hasAll [] args [.list .int] = true := (pre_splitW hpre).1
  have hc : l.pre.holds [] { args := args } = true := (pre_splitW hpre).2
  obtain ⟨d, r, rfl, h1, h2⟩ := hasAllW_cons hsh
  obtain rfl := hasAllW_nil h2
  obtain ⟨xs, rfl, h3⟩ := hasW_list h1
  obtain ⟨ns, rfl⟩ := items_int h3
  have hlen : ns.length ≤ n := by
    unfold OpenLaw.pre at hc
    have h4 : (WTm.not (.lt (.lit (.int (n : Int))) (.len (.arg 0)))).holds [] { args := [.list (ns.map .int)] } = true := by
      have h4 := (holds_andW hc).1
      rw [hn] at h4
      exact h4
    have h5 := condW_of h4 (w_not (w_lt w_lit (w_len_list (w_arg rfl))))
    rw [List.length_map] at h5
    refine Nat.le_of_not_lt fun q => ?_
    have q' : (n : Int) < ((ns.length : Nat) : Int) := by omega
    first
      | (rw [decide_eq_true q'] at h5; exact absurd h5 (by decide))
      | (simp at h5; omega)
  cases hwl with
  | cons w1 w2 =>
    cases w2
    cases w1 with
    | list ho hall => exact ⟨_, _, ns, rfl, rfl, ho, ints_of_wellAll ns _ hall, hlen⟩

theorem post_true (l : OpenLaw) (args : List WData) : l.row.toRowW.claim.post args (.bool true) args = true :=
  postW_of (r := l.row.toRowW) (X := (true == true))
    (show WShape.has [] (.bool true) .bool = true by first | rfl | decide | simp [WShape.has, WShape.arms, WShape.armsAll])
    (show (WTm.eq .res (.lit (.bool true))).value [] { args := args, res := some (.bool true), after := args } = some (.bool (true == true)) from w_eq_bool (w_res rfl) w_lit) rfl

/-! ### the attachment: holds_open's last premise (the goal 'hc' behind k_head) from a wpAny of the law's body -/
/-- the same from a codeAny of the CALL (for a layer whose function contracts speak of calls) -/
theorem attach_call {l : OpenLaw} {n : Nat} {q : Program} {loose : List Str} {XP : (Str → Option Value) → Heap → Prop} {YP : World → Heap → Prop} {d : DefRec}
    (hn : l.most = some n) (hdf : d.params.defaults = [])
    (call : ∀ (w : World) (s₀ s₁ : Shared) (mg mb : Str → Option Value) (fa : Addr) (o : Obj) (pm cd doc : Value) (a : Addr) (vs : List Value) (ns : List Int),
      Ground q loose [] XP w s₀ mg mb s₁.heap → YP w s₁.heap →
      s₁.heap.get? fa = some o → o.data = .func (docDef d.name d.params d.body d.scope pm cd doc) → s₁.heap.CodeRec cd d.name → mg d.name = some (.ref fa) →
      s₁.heap.get? a = some { cls := .type "list", data := .seq vs.toArray } → IntsAre vs ns → ns.length ≤ n → s₁.gens = #[] →
      codeAny (model l.prog w) callerA (.call (.ref fa) ⟨[.ref a], []⟩) (fun r s' => r = .ok (.ret (.bool true)) ∧ OldK s₁.heap s'.heap ∧ s'.os = s₁.os ∧ AllBare s'.gens) s₁) :
    WalkO q loose XP YP l.row.toRowW d [] (fun f vs => PySem.call f vs) := by
  intro w s₀ s₁ mg mb G Y fa o pm cd doc dV kV ho hd hcd hD hmg hg args vals as hpre hlay hrd hwl hlo
  obtain rfl : dV = .none := Dflts.none hD hdf
  obtain rfl : kV = .none := Dflts.noKw hD
  obtain ⟨a, vs, ns, rfl, rfl, hobj, hints, hlen⟩ := script_of hn hpre hwl
  refine enter_call (codeAny_mono (call w s₀ s₁ mg mb fa o pm cd doc a vs ns G Y ho (fd_plain hd) hcd hmg hobj hints hlen hg) fun r s' hq => ?_)
  obtain ⟨rfl, h2, h3, h4⟩ := hq
  exact ⟨.inl ⟨.bool true, .bool true, [], rfl, fun _ => rfl, .bool true, post_true l _, fun _ => ⟨List.Pairwise.nil, fun _ hm => (nomatch hm)⟩⟩, h2, h3, h4⟩

/-! ### rules over ANY heap (no ledger) from facts about the written part K: the library's own take a ledger (News) for what they write -/
section
variable {prog : Program} {w : World} {A : Around} {E : Value → Shared → Prop} {s : Shared} {K : Frag}

/-! the whole heap as the ledger: makes every rule that writes through a ledger a rule over any heap -/
def ledger (h : Heap) (L d : Addr) : List (Addr × Obj) := (List.range h.objs.size).filterMap fun a => if a = L ∨ a = d then none else (h.get? a).map fun o => (a, o)
end
end Att

namespace L2
open PySem PySem.Spec PyProof.Rows

theorem vals_ints : ∀ {vs : List Value} {ns : List Int}, IntsAre vs ns → Vals (ns.map V.int) vs
  | _, _, .nil => .nil
  | _, _, .cons n t h => .cons ⟨t, rfl⟩ (vals_ints h)

/-- nothing is tracked but the script, known to the object (or it is an object of the module) -/
def Only (H : Hp) : Prop := ∀ b, H b = none ∨ ∃ o xs, H b = some (.frz o (.lst xs))

/-- THE HEAD: the law's promise, at the heap behind the top. F, the promise of the law's def, may use that base is part of the heap (so K.In base, base.Ns mainGlobals mg stand in Mod) -/
theorem law_call {P : Program} {w : World} {K : PySem.W.Frag} {mg mb : Str → Option Value} {CX : CXT} {k : Nat} {fa a : Addr} {fd : FuncData} {x : Str} {sp : Sp} {s₁ : Shared} {vs : List Value} {ns : List Int}
    (KX : K.In s₁.heap) (hns : s₁.heap.Ns mainGlobals mg) (hb : s₁.heap.Ns builtinsNs mb) (hbb : ∀ x : Str, x ≠ "__name__" → mb x = bootBuiltins x) (hlim : s₁.heap.NoLimit) (hg : s₁.gens = #[])
    (ha : s₁.heap.get? a = some { cls := .type "list", data := .seq vs.toArray }) (hi : IntsAre vs ns) (hl : ns.length ≤ sizeLine) (hr : Room k callerA)
    (F : ∀ base : Heap, K.In base → base.Ns mainGlobals mg → FnOk P w K mg base CX k fa fd [x] sp) (hbind : ∀ (s : Shared) (u : Value), BindsTo s fd ⟨[u], []⟩ [(x, u)])
    (hsp : ∀ H : Hp, Only H → SqL K H a (ns.map V.int) → sp [.ref a] H (fun v _ => v = .bl true) fun _ _ _ => False)
    (hCX : ∀ H e s', CX [] H s₁ (fun _ _ _ => False) e s' → False) :
    codeAny (model P w) callerA (.call (.ref fa) ⟨[.ref a], []⟩) (fun r s' => r = .ok (.ret (.bool true)) ∧ OldK s₁.heap s'.heap ∧ s'.os = s₁.os ∧ AllBare s'.gens) s₁ := by
  have rv := vals_ints hi
  have lenV := hi.length
  -- from an abstract heap in which nothing but the script may be tracked
  have core : ∀ H : Hp, Only H → SqL K H a (ns.map V.int) → HOk P w H s₁.heap → (∀ b, H b ≠ none → b = a) → (H a ≠ none → K.lookup a = none) →
      codeAny (model P w) callerA (.call (.ref fa) ⟨[.ref a], []⟩) (fun r s' => r = .ok (.ret (.bool true)) ∧ OldK s₁.heap s'.heap ∧ s'.os = s₁.os ∧ AllBare s'.gens) s₁ := by
    intro H hO hS hok hA hK
    have base_of : ∀ {b : Addr} {o : Obj}, s₁.heap.get? b = some o → H b = none → (hidT s₁.heap H).get? b = some o := fun e n => hidT_get e n
    have noA : ∀ {b : Addr} {o : Obj} {es : Array DictEntry} {ep : Nat}, s₁.heap.get? b = some o → o.data = .dict es ep → H b = none := fun {b o es ep} e d => by
      cases q : H b with
      | none => rfl
      | some u =>
        have e' : b = a := hA b (by rw [q]; simp)
        subst e'
        rw [ha] at e; cases e
        have d' : Data.seq vs.toArray _ = Data.dict es ep := d
        cases d'
    have nsK : ∀ {b : Addr} {m : Str → Option Value}, s₁.heap.Ns b m → (hidT s₁.heap H).Ns b m := fun {b m} ⟨o, es, ep, e, d, r⟩ => ⟨o, es, ep, base_of e (noA e d), d, r⟩
    have hKb : K.In (hidT s₁.heap H) := fun b o e => base_of (KX b o e) (by
      cases q : H b with
      | none => rfl
      | some u =>
        have e' : b = a := hA b (by rw [q]; simp)
        subst e'
        rw [hK (by rw [q]; simp)] at e; cases e)
    have hM : Mod K mg (hidT s₁.heap H) := ⟨hKb, nsK hns, ⟨mb, nsK hb, hbb⟩, let ⟨mc, h1, h2⟩ := hlim; ⟨mc, nsK h1, h2⟩⟩
    have e0 : Env0 P w K mg (hidT s₁.heap H) callerA [] s₁ H := ⟨rfl, hM, fun b o e => of_hidT e, Nat.le_of_eq (hidT_size _ _), trivial, fun b hb => absurd (show b ∈ ([] : List Addr) from hb) (by simp), hok, .of_eq hg⟩
    refine codeAny_mono ((F _ hKb (nsK hns)).run callerA [] s₁ H ⟨[.ref a], []⟩ [.ref a] [.ref a] _ _ hr e0 (hbind s₁ (.ref a)) (.cons rfl .nil) (hsp H hO hS)) fun r s' h => ?_
    cases r with
    | error e => exact (hCX H e s' h).elim
    | ok fl =>
      cases fl with
      | next => exact False.elim h
      | brk => exact False.elim h
      | cont => exact False.elim h
      | ret u =>
        obtain ⟨v, H', os, bare, un, hok', r', q⟩ := h
        have q' : v = .bl true := q
        subst q'
        obtain rfl : u = Value.bool true := r'
        refine ⟨rfl, OldK.of_keep fun b o e => ?_, os, bare⟩
        cases q : H b with
        | none => exact un.keep b o e q (by intro z; exact absurd (show b ∈ ([] : List Addr) from z) (by simp)) (by simp)
        | some u =>
          rcases hO b with z | ⟨ob, xs, z⟩
          · rw [q] at z; cases z
          · have z2 := un.frzs b ob _ z
            obtain ⟨e1, _⟩ := hok b _ z
            obtain ⟨e2, _⟩ := hok' b _ z2
            rw [e] at e1; cases e1
            exact e2
  cases hk : K.lookup a with
  | some o =>
    -- the script is one of the module's own objects
    have e := KX a o hk
    rw [ha] at e
    cases e
    refine core (fun _ => none) (fun _ => .inl rfl) (.inr ⟨_, vs.toArray, _, hk, rfl, rfl, rfl, by rw [List.size_toArray, lenV]; exact hl, by simpa using rv⟩) (fun b u z => by have z' : (none : Option HO) = some u := z; cases z') (fun b z => absurd rfl z) fun z => absurd rfl z
  | none =>
    refine core (fun b => if b = a then some (.frz { cls := .type "list", data := .seq vs.toArray } (.lst (ns.map V.int))) else none) (fun b => ?_) (.inl (.inr ⟨{ cls := .type "list", data := .seq vs.toArray }, if_pos rfl⟩)) (fun b u z => ?_) (fun b z => ?_) fun _ => hk
    · by_cases hb : b = a
      · exact .inr ⟨_, _, if_pos hb⟩
      · exact .inl (if_neg hb)
    · by_cases hb : b = a
      · have z' := (if_pos hb).symm.trans z
        cases z'
        subst hb
        exact ⟨ha, by rw [List.length_map]; exact hl, vs, _, rv, ha⟩
      · have z' := (if_neg hb).symm.trans z
        cases z'
    · by_cases hb : b = a
      · exact hb
      · exact absurd (if_neg hb) z
end L2

namespace L2
open PySem PySem.Spec PyProof.Rows

abbrev KOf {K : PySem.W.Frag} {h : Heap} (_ : K.In h) : PySem.W.Frag := K

/-- the goal that k_head leaves (case hc), from the law's promise. F gives the function object fd (K's own) once, then the promise over every base -/
theorem walk_of {l : PySem.W.OpenLaw} {n k : Nat} {q : Program} {loose : List Str} {XP : (Str → Option Value) → Heap → Prop} {YP : World → Heap → Prop} {d : DefRec} {K : Params → PySem.W.Frag} {CX : World → CXT} {sp : World → Sp} {x : Str}
    (hn : l.most = some n) (hn2 : n ≤ sizeLine) (hdf : d.params.defaults = []) (hr : Room k callerA)
    (hY : ∀ (w : World) (h : Heap), YP w h → (K w.params).In h)
    (F : ∀ (w : World) (mg : Str → Option Value) (fa : Addr) (h : Heap), (K w.params).In h → h.Ns mainGlobals mg → mg d.name = some (.ref fa) →
      ∃ fd : FuncData, (∀ (s : Shared) (u : Value), BindsTo s fd ⟨[u], []⟩ [(x, u)]) ∧
        ∀ base : Heap, (K w.params).In base → base.Ns mainGlobals mg → FnOk l.prog w (K w.params) mg base (CX w) k fa fd [x] (sp w))
    (hsp : ∀ (w : World) (H : Hp) (a : Addr) (ns : List Int), ns.length ≤ n → Only H → SqL (K w.params) H a (ns.map V.int) → sp w [.ref a] H (fun v _ => v = .bl true) fun _ _ _ => False)
    (hCX : ∀ (w : World) (H : Hp) (s : Shared) (e : Value) (s' : Shared), CX w [] H s (fun _ _ _ => False) e s' → False) :
    PySem.W.WalkO q loose XP YP l.row.toRowW d [] (fun f vs => PySem.call f vs) := by
  refine Att.attach_call hn hdf fun w s₀ s₁ mg mb fa o pm cd doc a vs ns G Y ho hd hcd hmg hobj hints hlen hg => ?_
  have KX := hY w _ Y
  obtain ⟨fd, hb, hF⟩ := F w mg fa _ KX G.T.g hmg
  exact law_call KX G.T.g G.T.b G.T.builtins G.T.nolimit hg hobj hints (Nat.le_trans hlen hn2) hr hF hb (fun H hO hS => hsp w H a ns hlen hO hS) fun H e s' => hCX w H s₁ e s'
end L2

/- THE LAST THEOREM (shape; LID, My.* are yours):
   My.Adr: a structure of the addresses that your layer names (classes, functions); My.Txt K t: a structure (Prop) of the equations over K;
   My.txt_mk : {K} {implicit addresses ..} (e1 : nsIn K mainGlobals "law" = some (some (.ref f))) (e2 : K.lookup f = some ⟨oc, od, .func (fnOf "law" "law" params body scope dV kV doc pm an cdv ct), sl⟩) (e3 : codeIn K cdv "law" = true) .. : ∃ t, My.Txt K t

set_option maxRecDepth 100000 in
set_option maxHeartbeats 0 in
theorem PySem.Challenge.cw_LID_holds : PySem.Challenge.rw_LID.Holds := by
  w_on; o_law; k_head; (case hw => w_witness2)
  k_fill
  refine L2.walk_of (l := PySem.Challenge.rw_LID) (n := 63) (k := 40) (x := "script") (CX := fun w => ..) (sp := fun _ => My.sp_law) rfl (by decide) rfl ⟨rfl, by decide, by decide⟩ (fun w h Y => PySem.W.kIn_of Y) ?F ?S ?C
  case F =>
    intro w mg fa h KX G hmg
    have T : ∃ t, My.Txt (L2.KOf KX) t := by
      dsimp only [L2.KOf]                          -- K must stand as «<heap const> w.params» for k_is
      refine' My.txt_mk ?e1 ?e2 ?e3 ..
      (case e1 => PySem.W.k_is)                    -- in the order: a name -> its address -> its object -> its parts
      (case e2 => PySem.W.k_is)
      ..
    obtain ⟨t, T⟩ := T
    have e0 := hmg.symm.trans (PySem.W.mg_of KX G T.law)
    cases e0                                       -- fa is the law's own address
    exact ⟨_, fun s u => .of_eq rfl, fun base kb nb => My.law_fn T kb nb⟩     -- if «.of_eq rfl» comes too early: refine' ⟨_, ?b, fun base kb nb => My.law_fn T kb nb⟩; exact fun s u => .of_eq rfl
  case S => exact fun w H a ns hl hO hS => ..
  case C => exact ..
(the tactic k_is has no namespace: write k_is) -/

/-! SHORT WORDS over the layer: a def of the text, its body, what a loop and a test want. -/
namespace L2
open PySem PySem.Spec PyProof.Rows

/-! ### the text by places -/
def defArgs (s : Stmt) : Arguments := match s with
  | .FunctionDef _ a _ _ _ _ _ _ _ _ => a
  | _ => { posonlyargs := [], args := [], vararg := none, kwonlyargs := [], kw_defaults := [], kwarg := none, defaults := [] }
def defBody (s : Stmt) : List Stmt := match s with
  | .FunctionDef _ _ b _ _ _ _ _ _ _ => b
  | _ => []
def defScope (s : Stmt) : Scope := match s with
  | .FunctionDef _ _ _ _ _ _ sc _ _ _ => sc
  | _ => { kind := .function, names := [], isGenerator := false, isCoroutine := false }

/-! ### no exception leaves a def -/
abbrev CX0 : CXT := fun _ _ _ _ _ _ => False
abbrev E0 : XK := fun _ _ _ => False
theorem pass0 {X : Cx} : Passes CX0 X E0 := fun _ _ _ _ _ _ _ h => h.elim

/-! ### a def (or method) of the text as it stands behind the top -/
structure Fun (K : PySem.W.Frag) (x qual : Str) (st : Stmt) (f : Addr) (fd : FuncData) : Prop where
  ex : ∃ (oc : Value) (od : Option Addr) (kV doc pm : Value) (an : Option Addr) (cdv ct : Value) (osl : Array (Option Value)),
    fd = PySem.W.fnOf x qual (defArgs st) (defBody st) (defScope st) .none kV doc pm an cdv ct ∧ K.lookup f = some ⟨oc, od, .func fd, osl⟩ ∧ PySem.W.codeIn K cdv qual = true
  kp : PySem.W.keepIn K (.ref f) = true
section
variable {P : Program} {w : World} {K : PySem.W.Frag} {mg : Str → Option Value} {base : Heap}
/-- THE RULE for a def: its body as a term of rules, and the reading of that term -/
theorem Fun.ok {x qual : Str} {st : Stmt} {f : Addr} {fd : FuncData} {N ps : List Str} {k : Nat} {sp : Sp} (F : Fun K x qual st f fd) (S : FnScope N ps (defScope st)) (len : ∀ vs H Q E, sp vs H Q E → vs.length = ps.length)
    (hbody : ∀ (cdv : Value) (A : Around) (outer : List Env) (s : Shared) (H : Hp) (vs : List V) (Q : VK) (E : XK), Room k (A.deeper (envOfC qual (defScope st) s.heap.objs.size f cdv)) → sp vs H Q E →
      ∃ t, PSs (cxOf CX0 P w K mg base N qual (defScope st) f cdv A outer s H E).nox (defBody st) t ∧ t { nx := fun _ H' => Q .non H', rt := Q } (start N vs) H) : FnOk P w K mg base CX0 (k + 1) f fd ps sp := by
  obtain ⟨oc, od, kV, doc, pm, an, cdv, ct, osl, rfl, lk, hcd⟩ := F.ex
  refine fn_of lk hcd S len fun A outer s H vs Q E hr hsp => ?_
  obtain ⟨t, h, q⟩ := hbody cdv A outer s H vs Q E hr hsp
  exact ⟨t, h.nox, q⟩
/-- how its arguments bind (no defaults): h is «fun _ _ _ _ _ _ us hl => match us, hl with | [_, _], _ => rfl», one _ a parameter -/
theorem Fun.binds {x qual : Str} {st : Stmt} {f : Addr} {fd : FuncData} {ps : List Str} (F : Fun K x qual st f fd)
    (h : ∀ (kV doc pm : Value) (an : Option Addr) (cdv ct : Value) (us : List Value), us.length = ps.length → bindArgs (PySem.W.fnOf x qual (defArgs st) (defBody st) (defScope st) .none kV doc pm an cdv ct) ⟨us, []⟩ = pure (ps.zip us)) : Binds K fd ps [] := by
  obtain ⟨oc, od, kV, doc, pm, an, cdv, ct, osl, rfl, lk, hcd⟩ := F.ex
  exact .all (h kV doc pm an cdv ct)
theorem fun_mk {x qual : Str} {st : Stmt} {f : Addr} {oc : Value} {od an : Option Addr} {osl : Array (Option Value)} {kV doc pm cdv ct : Value} (l : K.lookup f = some ⟨oc, od, .func (PySem.W.fnOf x qual (defArgs st) (defBody st) (defScope st) .none kV doc pm an cdv ct), osl⟩)
    (c : PySem.W.codeIn K cdv qual = true) (k : PySem.W.keepIn K (.ref f) = true) : Fun K x qual st f (PySem.W.fnOf x qual (defArgs st) (defBody st) (defScope st) .none kV doc pm an cdv ct) := ⟨⟨oc, od, kV, doc, pm, an, cdv, ct, osl, rfl, l, c⟩, k⟩
end
theorem small1000 {n : Nat} (h : n ≤ 1000) : n < sizeLine := Nat.lt_of_le_of_lt h (by decide)

/-! ### expressions in short: the name that stands in the i-th slot -/
section
variable {X : Cx}
theorem pv (i : Nat) {x : Str} {pos : Pos} (hN : X.N[i]? = some x := by rfl) (hv : Vis X.env.scope x := by first | exact Or.inl rfl | exact Or.inr (Or.inl rfl) | exact Or.inr (Or.inr rfl)) (hd : (x == ("__debug__" : Str)) = false := by decide)
    (hcd : (x == ("__classdict__" : Str)) = false := by decide) : PE X (.Name x pos) (tVar i) := pe_var hN hv hd hcd
end

/-! ### tests -/
theorem iteF {A B : Prop} (h : B) : if false = true then A else B := by
  rw [if_neg Bool.false_ne_true]
  exact h
theorem iteT {A B : Prop} (h : A) : if true = true then A else B := by
  rw [if_pos rfl]
  exact h
/-! ### heaps -/
/-- all that was tracked is as it was -/
def Same (H H' : Hp) : Prop := ∀ b o, H b = some o → H' b = some o
theorem Same.refl (H : Hp) : Same H H := fun _ _ h => h
theorem Same.trans {H H1 H2 : Hp} (a : Same H H1) (b : Same H1 H2) : Same H H2 := fun c o h => b c o (a c o h)
theorem Same.free {H H' : Hp} (e : Same H H') {l : Addr} (h : H' l = Option.none) : H l = Option.none := by
  cases q : H l with
  | none => rfl
  | some o =>
    rw [e l o q] at h
    cases h
theorem Same.seq {K : PySem.W.Frag} {H H' : Hp} {a : Addr} {xs : List V} (e : Same H H') (h : SqL K H a xs) : SqL K H' a xs := by
  rcases h with (h | ⟨o, h⟩) | h
  · exact .inl (.inl (e _ _ h))
  · exact .inl (.inr ⟨o, e _ _ h⟩)
  · exact .inr h

end L2
end

section
namespace Mir
/-- the product, as both loops reckon it -/
def prodL (l : List Int) : Int := l.foldl (fun a x => a * x) 1
def sqs (l : List Int) : Int := (l.map fun x => x * x).sum
def ins (x : Int) : List Int → List Int
  | [] => [x]
  | y :: r => if x ≤ y then x :: y :: r else y :: ins x r
def srt : List Int → List Int
  | [] => []
  | x :: r => ins x (srt r)
theorem ins_perm (x : Int) : ∀ l, (ins x l).Perm (x :: l)
  | [] => .refl _
  | y :: r => by
    unfold ins
    split
    · exact .refl _
    · exact ((ins_perm x r).cons y).trans (List.Perm.swap x y r)
theorem srt_perm : ∀ l, (srt l).Perm l
  | [] => .refl _
  | x :: r => (ins_perm x (srt r)).trans ((srt_perm r).cons x)
theorem ins_sorted (x : Int) : ∀ l, l.Pairwise (· ≤ ·) → (ins x l).Pairwise (· ≤ ·)
  | [], _ => by simp [ins]
  | y :: r, h => by
    unfold ins
    rw [List.pairwise_cons] at h
    split
    · rename_i hxy
      rw [List.pairwise_cons]
      refine ⟨fun z hz => ?_, List.pairwise_cons.mpr h⟩
      rcases List.mem_cons.mp hz with rfl | hz
      · exact hxy
      · exact Int.le_trans hxy (h.1 z hz)
    · rename_i hxy
      rw [List.pairwise_cons]
      refine ⟨fun z hz => ?_, ins_sorted x r h.2⟩
      rcases List.mem_cons.mp ((ins_perm x r).mem_iff.mp hz) with rfl | hz
      · omega
      · exact h.1 z hz
theorem srt_sorted : ∀ l, (srt l).Pairwise (· ≤ ·)
  | [] => .nil
  | x :: r => ins_sorted x _ (srt_sorted r)
theorem same_of {a b : List Int} (hp : a.Perm b) (ha : a.Pairwise (· ≤ ·)) (hb : b.Pairwise (· ≤ ·)) : a = b :=
  hp.eq_of_pairwise (fun _ _ _ _ h1 h2 => Int.le_antisymm h1 h2) ha hb
theorem srt_of {a b : List Int} (hp : a.Perm b) (ha : a.Pairwise (· ≤ ·)) : a = srt b :=
  same_of (hp.trans (srt_perm b).symm) ha (srt_sorted b)
theorem srt_id {a : List Int} (h : a.Pairwise (· ≤ ·)) : srt a = a := (srt_of (.refl a) h).symm
theorem srt_length (l : List Int) : (srt l).length = l.length := (srt_perm l).length_eq
theorem srt_mem {x : Int} {l : List Int} : x ∈ srt l ↔ x ∈ l := (srt_perm l).mem_iff

theorem foldl_prod (l : List Int) : ∀ a, l.foldl (fun a x => a * x) a = a * prodL l := by
  induction l with
  | nil => intro a; simp [prodL]
  | cons x r ih =>
    intro a
    have e : prodL (x :: r) = x * prodL r := by
      show List.foldl _ (1 * x) r = _
      rw [ih, Int.one_mul]
    rw [e, List.foldl_cons, ih, Int.mul_assoc]
theorem prodL_nil : prodL [] = 1 := rfl
theorem prodL_cons (x : Int) (r : List Int) : prodL (x :: r) = x * prodL r := by
  show List.foldl _ (1 * x) r = _
  rw [foldl_prod, Int.one_mul]
theorem prodL_snoc (r : List Int) (x : Int) : prodL (r ++ [x]) = prodL r * x := by
  show List.foldl _ 1 (r ++ [x]) = _
  rw [List.foldl_append]
  rfl
theorem prodL_perm {a b : List Int} (h : a.Perm b) : prodL a = prodL b := by
  induction h with
  | nil => rfl
  | cons x _ ih => rw [prodL_cons, prodL_cons, ih]
  | swap x y l => rw [prodL_cons, prodL_cons, prodL_cons, prodL_cons, ← Int.mul_assoc, ← Int.mul_assoc, Int.mul_comm y x]
  | trans _ _ h1 h2 => exact h1.trans h2
theorem sqs_cons (x : Int) (r : List Int) : sqs (x :: r) = x * x + sqs r := by simp [sqs]
theorem sqs_perm {a b : List Int} (h : a.Perm b) : sqs a = sqs b := by
  induction h with
  | nil => rfl
  | cons x _ ih => rw [sqs_cons, sqs_cons, ih]
  | swap x y l => rw [sqs_cons, sqs_cons, sqs_cons, sqs_cons]; omega
  | trans _ _ h1 h2 => exact h1.trans h2
/-! ### sizes -/
def Bd (n : Nat) (l : List Int) : Prop := ∀ x ∈ l, x.natAbs < 2 ^ n
theorem Bd.mono {m n : Nat} {l : List Int} (h : Bd m l) (hm : m ≤ n) : Bd n l := fun x hx => Nat.lt_of_lt_of_le (h x hx) (Nat.pow_le_pow_right (by decide) hm)
theorem mul_bd {m n : Nat} {x y : Int} (h1 : x.natAbs < 2 ^ m) (h2 : y.natAbs < 2 ^ n) : (x * y).natAbs < 2 ^ (m + n) := by
  rw [Int.natAbs_mul, Nat.pow_add]
  have hp : 0 < 2 ^ n := Nat.two_pow_pos n
  calc x.natAbs * y.natAbs ≤ x.natAbs * 2 ^ n := Nat.mul_le_mul_left _ (Nat.le_of_lt h2)
    _ < (x.natAbs + 1) * 2 ^ n := by rw [Nat.succ_mul]; omega
    _ ≤ 2 ^ m * 2 ^ n := Nat.mul_le_mul_right _ h1
theorem prod_bd {n : Nat} : ∀ {l : List Int}, Bd n l → (prodL l).natAbs < 2 ^ (l.length * n + 1)
  | [], _ => by rw [prodL_nil]; simp
  | x :: r, h => by
    rw [prodL_cons]
    have h1 := mul_bd (h x List.mem_cons_self) (prod_bd (l := r) fun y hy => h y (List.mem_cons_of_mem _ hy))
    have e : n + (r.length * n + 1) = (x :: r).length * n + 1 := by rw [List.length_cons, Nat.succ_mul]; omega
    rwa [e] at h1
theorem sub_bd {m n : Nat} {x y : Int} (h1 : x.natAbs < 2 ^ m) (h2 : y.natAbs < 2 ^ n) (k : Nat) (hk : max m n + 1 ≤ k) : (x - y).natAbs < 2 ^ k := by
  have g1 : x.natAbs < 2 ^ max m n := Nat.lt_of_lt_of_le h1 (Nat.pow_le_pow_right (by decide) (Nat.le_max_left ..))
  have g2 : y.natAbs < 2 ^ max m n := Nat.lt_of_lt_of_le h2 (Nat.pow_le_pow_right (by decide) (Nat.le_max_right ..))
  have g3 : 2 ^ (max m n + 1) ≤ 2 ^ k := Nat.pow_le_pow_right (by decide) hk
  rw [Nat.pow_succ] at g3
  omega
/-! ### the neighbour at a place -/
def near (t : Int) (row : List Int) (p : Nat) : List Int := srt (row.eraseIdx p ++ [t * prodL (row.eraseIdx p) - row.getD p 0])
theorem near_length {t : Int} {row : List Int} {p : Nat} (h : p < row.length) : (near t row p).length = row.length := by
  unfold near
  rw [srt_length, List.length_append, List.length_eraseIdx, if_pos h, List.length_singleton]
  omega
theorem getD_mem {row : List Int} {p : Nat} (h : p < row.length) : row.getD p 0 ∈ row := by
  rw [List.getD_eq_getElem?_getD, List.getElem?_eq_getElem h]; exact List.getElem_mem h
theorem mem_eraseIdx {row : List Int} {p : Nat} {x : Int} (h : x ∈ row.eraseIdx p) : x ∈ row := List.mem_of_mem_eraseIdx h
theorem near_bd {t : Int} {row : List Int} {p n : Nat} (ht : t.natAbs < 2 ^ 4) (h : Bd n row) (hp : p < row.length) (hl : row.length ≤ 6) : Bd (5 * n + 6) (near t row p) := by
  intro x hx
  unfold near at hx
  rw [srt_mem] at hx
  rcases List.mem_append.mp hx with hx | hx
  · exact h.mono (by omega) x (mem_eraseIdx hx)
  · rw [List.mem_singleton.mp hx]
    have he : (row.eraseIdx p).length ≤ 5 := by rw [List.length_eraseIdx, if_pos hp]; omega
    have h1 := prod_bd (n := n) (l := row.eraseIdx p) fun y hy => h y (mem_eraseIdx hy)
    have h2 : (prodL (row.eraseIdx p)).natAbs < 2 ^ (5 * n + 1) := Nat.lt_of_lt_of_le h1 (Nat.pow_le_pow_right (by decide) (by have := Nat.mul_le_mul_right n he; omega))
    exact sub_bd (mul_bd ht h2) (h _ (getD_mem hp)) _ (by omega)
/-! ### a row -/
def isRow (t : Int) (row : List Int) : Bool := !(row.any fun x => decide (x < 1)) && decide (row = srt row) && decide (sqs row = t * prodL row)
end Mir
end

section
namespace Mir
def tab1 : List (Int × List Int) := [(3, [1, 1, 1]), (1, [3, 3, 3]), (4, [1, 1, 1, 1]), (1, [2, 2, 2, 2]), (5, [1, 1, 1, 1, 1])]
def tab2 : List (Int × List Int) := [(4, [1, 1, 1, 1, 2]), (1, [1, 1, 3, 3, 4]), (6, [1, 1, 1, 1, 1, 1]), (3, [1, 1, 1, 1, 2, 2])]
def tab : List (Int × List Int) := tab1 ++ tab2
def cell (ns : List Int) (k : Nat) : Int := ns.getD k 0
def rootOf (c : Int) : Int × List Int := tab.getD (c % 9).toNat (0, [])
theorem mod_lt9 (c : Int) : (c % 9).toNat < 9 := by omega
theorem root_mem (c : Int) : rootOf c ∈ tab := by
  unfold rootOf
  have h := mod_lt9 c
  generalize (c % 9).toNat = k at h
  rw [List.getD_eq_getElem?_getD, List.getElem?_eq_getElem (show k < tab.length from h)]
  exact List.getElem_mem _
theorem root_at (c : Int) : tab[(c % 9).toNat]? = some (rootOf c) := by
  unfold rootOf
  have h := mod_lt9 c
  generalize (c % 9).toNat = k at h
  rw [List.getD_eq_getElem?_getD, List.getElem?_eq_getElem (show k < tab.length from h)]
  rfl
theorem tab_ok : ∀ p ∈ tab, (0 < p.1 ∧ p.1 < 16) ∧ (3 ≤ p.2.length ∧ p.2.length ≤ 6) ∧ (∀ x ∈ p.2, x.natAbs < 8) ∧ isRow p.1 p.2 = true := by decide
def stepR (t : Int) (ns : List Int) (row : List Int) (k : Nat) : List Int :=
  let far := near t row (cell ns (2 + k) % (row.length : Int)).toNat
  if row.sum < far.sum then far else row
def walk (t : Int) (ns row : List Int) : Nat → List Int
  | 0 => row
  | k + 1 => stepR t ns (walk t ns row k) k
def drawnT (ns : List Int) : Int := (rootOf (cell ns 0)).1
def drawnN (ns : List Int) : Nat := (cell ns 1 % 7).toNat
def drawnR (ns : List Int) : List Int := walk (drawnT ns) ns (rootOf (cell ns 0)).2 (drawnN ns)
def bn : Nat → Nat
  | 0 => 3
  | k + 1 => 5 * bn k + 6
theorem bn_le (k : Nat) : bn k ≤ bn (k + 1) := by show bn k ≤ 5 * bn k + 6; omega
theorem bn_mono {j k : Nat} (h : j ≤ k) : bn j ≤ bn k := by
  induction k with
  | zero => cases Nat.le_zero.mp h; exact Nat.le_refl _
  | succ k ih =>
    rcases Nat.lt_or_ge k j with h1 | h1
    · have : j = k + 1 := by omega
      subst this; exact Nat.le_refl _
    · exact Nat.le_trans (ih h1) (bn_le k)
theorem place_lt (c : Int) {n : Nat} (h : 0 < n) : (c % (n : Int)).toNat < n := by
  have h1 := Int.emod_nonneg c (show (n : Int) ≠ 0 by omega)
  have h2 := Int.emod_lt_of_pos c (show (0 : Int) < n by omega)
  omega
structure Fine (n : Nat) (row : List Int) : Prop where
  lo : 3 ≤ row.length
  hi : row.length ≤ 6
  bd : Bd n row
theorem Fine.mono {m n : Nat} {row : List Int} (h : Fine m row) (hm : m ≤ n) : Fine n row := ⟨h.lo, h.hi, h.bd.mono hm⟩
theorem Fine.near {n : Nat} {row : List Int} {t : Int} {p : Nat} (h : Fine n row) (ht : t.natAbs < 2 ^ 4) (hp : p < row.length) : Fine (5 * n + 6) (near t row p) :=
  ⟨by rw [near_length hp]; exact h.lo, by rw [near_length hp]; exact h.hi, near_bd ht h.bd hp h.hi⟩
theorem Fine.step {n : Nat} {row ns : List Int} {t : Int} {k : Nat} (h : Fine n row) (ht : t.natAbs < 2 ^ 4) : Fine (5 * n + 6) (stepR t ns row k) := by
  unfold stepR
  have hl := h.lo
  dsimp only
  split
  · exact h.near ht (place_lt _ (by omega))
  · exact h.mono (by omega)
theorem walk_fine {t : Int} {ns row : List Int} (ht : t.natAbs < 2 ^ 4) (h : Fine 3 row) : ∀ k, Fine (bn k) (walk t ns row k)
  | 0 => h
  | k + 1 => (walk_fine ht h k).step ht
theorem drawnT_lt (ns : List Int) : (drawnT ns).natAbs < 2 ^ 4 := by
  have h := (tab_ok _ (root_mem (cell ns 0))).1
  unfold drawnT
  omega
theorem root_fine (c : Int) : Fine 3 (rootOf c).2 := by
  have h := (tab_ok _ (root_mem c)).2
  exact ⟨h.1.1, h.1.2, fun x hx => h.2.1 x hx⟩
theorem drawnN_le (ns : List Int) : drawnN ns ≤ 6 := by unfold drawnN; omega
theorem drawn_fine (ns : List Int) : Fine (bn 6) (drawnR ns) := (walk_fine (drawnT_lt ns) (root_fine _) _).mono (bn_mono (drawnN_le ns))
theorem bn6 : bn 6 = 70311 := rfl
/-! a row turned -/
def turned (row : List Int) (c : Int) : List Int :=
  if c / 8 % 2 = 0 then row.set (c % (row.length : Int)).toNat (row.getD (c % (row.length : Int)).toNat 0 + c / 16 % 7 - 3)
  else (row.set (c % (row.length : Int)).toNat (row.getD (c / 16 % (row.length : Int)).toNat 0)).set (c / 16 % (row.length : Int)).toNat (row.getD (c % (row.length : Int)).toNat 0)
theorem isRow_any {t : Int} {ns : List Int} (h : (ns.map fun n => decide (n < 1)).any id = true) : isRow t ns = false := by
  have e : (ns.any fun x => decide (x < 1)) = true := by rw [← h, List.any_map]; rfl
  unfold isRow
  rw [e]; rfl
theorem any_map_id (ns : List Int) : ((ns.map fun n => decide (n < 1)).any id) = ns.any fun x => decide (x < 1) := by rw [List.any_map]; rfl
theorem isRow_min {t m : Int} {ns : List Int} (hm : m ∈ ns) (h : m < 1) : isRow t ns = false := by
  have e : (ns.any fun x => decide (x < 1)) = true := List.any_eq_true.mpr ⟨m, hm, decide_eq_true h⟩
  unfold isRow
  rw [e]; rfl
theorem any_min {m : Int} {ns : List Int} (hmin : ∀ a ∈ ns, m ≤ a) (h : ¬ m < 1) : (ns.any fun x => decide (x < 1)) = false := by
  rw [List.any_eq_false]
  intro x hx
  have := hmin x hx
  simp; omega
theorem isRow_unsorted {t : Int} {ns : List Int} (h : ¬ ns = srt ns) : isRow t ns = false := by
  unfold isRow
  rw [decide_eq_false h, Bool.and_false, Bool.false_and]
theorem isRow_eq {t : Int} {ns : List Int} (h1 : (ns.any fun x => decide (x < 1)) = false) (h2 : ns = srt ns) : isRow t ns = decide (sqs ns = t * prodL ns) := by
  unfold isRow
  rw [h1, decide_eq_true h2]; rfl
end Mir
end

section
namespace Mir
structure RowP (t : Int) (row : List Int) : Prop where
  pos : ∀ x ∈ row, 1 ≤ x
  ord : row = srt row
  eq : sqs row = t * prodL row
theorem isRow_iff {t : Int} {row : List Int} : isRow t row = true ↔ RowP t row := by
  unfold isRow
  rw [Bool.and_eq_true, Bool.and_eq_true, Bool.not_eq_true', decide_eq_true_iff, decide_eq_true_iff, List.any_eq_false]
  constructor
  · rintro ⟨⟨h1, h2⟩, h3⟩
    refine ⟨fun x hx => ?_, h2, h3⟩
    have := h1 x hx
    simp at this
    omega
  · rintro ⟨h1, h2, h3⟩
    refine ⟨⟨fun x hx => ?_, h2⟩, h3⟩
    have := h1 x hx
    simp
    omega
theorem erase_perm {row : List Int} {p : Nat} (h : p < row.length) : (row.getD p 0 :: row.eraseIdx p).Perm row := by
  induction row generalizing p with
  | nil => exact absurd h (Nat.not_lt_zero _)
  | cons x r ih =>
    cases p with
    | zero => exact .refl _
    | succ p =>
      have hp : p < r.length := by simpa using h
      have h1 := ih hp
      show ((r.getD p 0) :: x :: r.eraseIdx p).Perm (x :: r)
      exact (List.Perm.swap x (r.getD p 0) _).trans (h1.cons x)
theorem sqs_pos {l : List Int} (h : ∀ x ∈ l, 1 ≤ x) (hl : 0 < l.length) : 1 ≤ sqs l := by
  have nn : ∀ l : List Int, (∀ x ∈ l, 1 ≤ x) → 0 ≤ sqs l := by
    intro l
    induction l with
    | nil => intro _; decide
    | cons y r ih =>
      intro h
      rw [sqs_cons]
      have h1 := ih fun x hx => h x (List.mem_cons_of_mem _ hx)
      have h2 := h y List.mem_cons_self
      have h3 : 0 ≤ y * y := Int.mul_nonneg (by omega) (by omega)
      omega
  cases l with
  | nil => cases hl
  | cons y r =>
    rw [sqs_cons]
    have h1 := nn r fun x hx => h x (List.mem_cons_of_mem _ hx)
    have h2 := h y List.mem_cons_self
    have h3 : 1 * 1 ≤ y * y := Int.mul_le_mul h2 h2 (by decide) (by omega)
    omega
/-- the number that comes in -/
def newAt (t : Int) (row : List Int) (p : Nat) : Int := t * prodL (row.eraseIdx p) - row.getD p 0
theorem near_perm (t : Int) (row : List Int) (p : Nat) : (near t row p).Perm (newAt t row p :: row.eraseIdx p) := by
  unfold near newAt
  exact (srt_perm _).trans List.perm_append_comm
theorem new_mul {t : Int} {row : List Int} {p : Nat} (h : RowP t row) (hp : p < row.length) : row.getD p 0 * newAt t row p = sqs (row.eraseIdx p) := by
  have e1 := sqs_perm (erase_perm hp)
  have e2 := prodL_perm (erase_perm hp)
  rw [sqs_cons] at e1
  rw [prodL_cons] at e2
  have e3 := h.eq
  rw [← e1, ← e2] at e3
  unfold newAt
  rw [Int.mul_sub]
  have e4 : row.getD p 0 * (t * prodL (row.eraseIdx p)) = t * (row.getD p 0 * prodL (row.eraseIdx p)) := by
    rw [← Int.mul_assoc, Int.mul_comm (row.getD p 0) t, Int.mul_assoc]
  rw [e4]
  omega
theorem new_pos {t : Int} {row : List Int} {p : Nat} (h : RowP t row) (hp : p < row.length) (hl : 2 ≤ row.length) : 1 ≤ newAt t row p := by
  have e := new_mul h hp
  have h1 : 1 ≤ sqs (row.eraseIdx p) := sqs_pos (fun x hx => h.pos x (mem_eraseIdx hx)) (by rw [List.length_eraseIdx, if_pos hp]; omega)
  have h2 := h.pos _ (getD_mem hp)
  rcases Int.lt_or_le 0 (newAt t row p) with h3 | h3
  · omega
  · have := Int.mul_nonpos_of_nonneg_of_nonpos (show 0 ≤ row.getD p 0 by omega) h3
    omega
theorem near_row {t : Int} {row : List Int} {p : Nat} (h : RowP t row) (hp : p < row.length) (hl : 2 ≤ row.length) : RowP t (near t row p) := by
  have pm := near_perm t row p
  refine ⟨fun x hx => ?_, ?_, ?_⟩
  · rcases List.mem_cons.mp (pm.mem_iff.mp hx) with rfl | hx
    · exact new_pos h hp hl
    · exact h.pos x (mem_eraseIdx hx)
  · unfold near
    exact (srt_id (srt_sorted _)).symm
  · rw [sqs_perm pm, prodL_perm pm, sqs_cons, prodL_cons, ← new_mul h hp]
    have e : t * prodL (row.eraseIdx p) = newAt t row p + row.getD p 0 := by unfold newAt; omega
    rw [← Int.mul_assoc, Int.mul_comm t, Int.mul_assoc, e, Int.mul_add, Int.mul_comm (row.getD p 0)]
theorem step_row {t : Int} {ns row : List Int} {k : Nat} (h : RowP t row) (hl : 2 ≤ row.length) : RowP t (stepR t ns row k) := by
  unfold stepR
  dsimp only
  split
  · exact near_row h (place_lt _ (by omega)) hl
  · exact h
theorem walk_row {t : Int} {ns row : List Int} (ht : t.natAbs < 2 ^ 4) (hf : Fine 3 row) (h : RowP t row) : ∀ k, RowP t (walk t ns row k)
  | 0 => h
  | k + 1 => step_row (walk_row ht hf h k) (by have := (walk_fine (ns := ns) ht hf k).lo; omega)
theorem root_row (c : Int) : RowP (rootOf c).1 (rootOf c).2 := isRow_iff.mp (tab_ok _ (root_mem c)).2.2.2
theorem drawn_row (ns : List Int) : RowP (drawnT ns) (drawnR ns) := walk_row (drawnT_lt ns) (root_fine _) (root_row _) _
end Mir
end

section
namespace Mir
/-- the row that it comes from, by the last place -/
def back (t : Int) (row : List Int) : List Int := near t row (row.length - 1)
/-- a root -/
def rootB (t : Int) (row : List Int) : Bool := decide (row.sum ≤ (back t row).sum)
theorem range_all {n : Nat} {pb : Nat → Bool} (hn : 0 < n) (h : ∀ i, i + 1 < n → pb i = true) : ((List.range n).map pb).all id = pb (n - 1) := by
  obtain ⟨m, rfl⟩ : ∃ m, n = m + 1 := ⟨n - 1, by omega⟩
  rw [List.range_succ, List.map_append, List.all_append, Nat.add_sub_cancel]
  have e : ((List.range m).map pb).all id = true := by
    rw [List.all_eq_true]
    intro b hb
    obtain ⟨i, hi, rfl⟩ := List.mem_map.mp hb
    rw [List.mem_range] at hi
    exact h i (by omega)
  rw [e]
  simp
end Mir
end

section
namespace Mir
/-! ### the roots, as the program looks for them -/
def fac (t : Int) (h : List Int) : Int := t * prodL h
structure RootOk (t m : Int) (r : List Int) : Prop where
  len : r.length = m.toNat
  row : RowP t r
  root : rootB t r = true
  lo : 3 ≤ t * prodL (r.take (m.toNat - 2))
  hi : t * prodL (r.take (m.toNat - 2)) ≤ m
  small : ∀ x ∈ r, x < 8
/-! ### each root is told -/
theorem prodL_pos : ∀ {h : List Int}, (∀ x ∈ h, 1 ≤ x) → 1 ≤ prodL h
  | [], _ => by rw [prodL_nil]; exact Int.le_refl _
  | x :: h, hp => by
    rw [prodL_cons]
    have h1 := hp x List.mem_cons_self
    have h2 := prodL_pos (h := h) fun z hz => hp z (List.mem_cons_of_mem _ hz)
    have := Int.mul_le_mul h1 h2 (by omega) (by omega)
    omega
end Mir
end

section
namespace Mir
/-! ### ways -/
/-- the rows that a row comes from, one after the other -/
def desc (t : Int) (row : List Int) : Nat → List Int
  | 0 => row
  | k + 1 => back t (desc t row k)
structure Depth (t : Int) (row : List Int) (n : Nat) : Prop where
  on : ∀ k, k < n → rootB t (desc t row k) = false
  out : rootB t (desc t row n) = true
/-- the place in the lesser row that leads to the row -/
def fp (t : Int) (b row : List Int) : Nat := ((List.range b.length).map (near t b)).idxOf row
end Mir
end

section
set_option Elab.async false
set_option linter.all false
set_option maxRecDepth 100000
set_option maxHeartbeats 1000000
/-! MORE RULES over the hand layer: comprehensions, sum, any, all, sorted, min, isinstance, == of lists. -/
namespace L2
open PySem PySem.Spec PyProof.Rows

/-! ### calls of built-ins on lists of ints and bools -/
section
variable {X : Cx}
theorem op_mulB : OpR X (binaryOp .Mult) (rI IntMulOk fun i j => .int (i * j)) := opI fun _ _ _ _ _ _ _ hc q => mul_int q hc

theorem call_sumL (hc : X.calm = true) : CallR X (.builtin "sum") (fun xs H Q => ∃ (p : Addr) (ns : List Int), xs = [.ref p] ∧ SqL X.K H p (ns.map V.int) ∧ Q (.int ns.sum) H) := by
  intro pins s σ H xs us Q I r h
  obtain ⟨p, ns, rfl, hq, q⟩ := h
  obtain ⟨u, rfl, rx⟩ := vals1 r
  cases rx
  obtain ⟨its, r', pl, hz⟩ := I.list hq
  have hi : IntsAre its ns := intsAre_of r'
  obtain ⟨ys, hy⟩ := hi.allInts.items
  have hl' : s.heap.IsList p (intItems ys) := hy ▸ pl.isList
  refine sum_intListG (I.ok.hd hc) hl' fun h' tk t' hk => ?_
  have e1 : ns = ys.toList.map (·.1) := by
    rw [← nums_intItems, ← hy]
    exact (show numsOf its.toArray.toList = ns from hi.numsOf).symm
  have e2 : preSum (numAt ys) ys.size = ns.sum := by
    rw [preSum_eq, List.take_of_length_le (by simp), e1]
  rw [e2]
  exact ⟨.int ns.sum, H, I.kept hk, ⟨_, rfl⟩, q⟩

theorem bools_of {bs : List Bool} : ∀ {us : List Value}, Vals (bs.map V.bl) us → LSm.BoolsAre us bs := by
  induction bs with
  | nil => intro us r; cases r; exact .nil
  | cons b bs ih =>
    intro us r
    cases r with
    | cons r rr => cases (show _ = Value.bool b from r); exact .cons b (ih rr)

theorem call_anyL (hc : X.calm = true) : CallR X (.builtin "any") (fun xs H Q => ∃ (p : Addr) (bs : List Bool), xs = [.ref p] ∧ SqL X.K H p (bs.map V.bl) ∧ Q (.bl (bs.any id)) H) := by
  intro pins s σ H xs us Q I r h
  obtain ⟨p, bs, rfl, hq, q⟩ := h
  obtain ⟨u, rfl, rx⟩ := vals1 r
  cases rx
  obtain ⟨its, r', pl, hz⟩ := I.list hq
  have hb := bools_of r'
  have hl := pl.isList
  have hlt : p < s.heap.objs.size := by obtain ⟨_, e, _⟩ := hl; exact Heap.lt_size e
  refine call_any_walk (wpAny_pyIter_list hl ?_)
  refine ⟨s.heap.objs.size, [s.heap.objs.size, p], [s.heap.objs.size], its.toArray.size, _, _, fun i => (bs[i]?).getD false, rfl, Walks.list (A := X.A.in1) (I.ok.hd hc) _ p (Nat.ne_of_lt hlt) its.toArray,
    ⟨⟨_, Heap.get?_push_size _ rfl, rfl, rfl⟩, hl.push _⟩, fun i v s' Q' E' hP hQ => ?_, fun h' tk hk => ?_⟩
  · obtain ⟨b, e, rfl⟩ := hb.get i v (by simpa using hP)
    simp only [e, Option.getD_some] at hQ
    exact wpAny_truthy_bool hQ
  · have e : ((List.range its.toArray.size).any fun i => (bs[i]?).getD false) = bs.any id := by
      rw [List.size_toArray, hb.length]; exact LSm.range_any bs
    rw [e]
    exact ⟨.bl _, H, I.kept (LSm.kept_iter hk), rfl, q⟩

theorem call_allL (hc : X.calm = true) : CallR X (.builtin "all") (fun xs H Q => ∃ (p : Addr) (bs : List Bool), xs = [.ref p] ∧ SqL X.K H p (bs.map V.bl) ∧ Q (.bl (bs.all id)) H) := by
  intro pins s σ H xs us Q I r h
  obtain ⟨p, bs, rfl, hq, q⟩ := h
  obtain ⟨u, rfl, rx⟩ := vals1 r
  cases rx
  obtain ⟨its, r', pl, hz⟩ := I.list hq
  have hb := bools_of r'
  have hl := pl.isList
  have hlt : p < s.heap.objs.size := by obtain ⟨_, e, _⟩ := hl; exact Heap.lt_size e
  refine call_all_walk (wpAny_pyIter_list hl ?_)
  refine ⟨s.heap.objs.size, [s.heap.objs.size, p], [s.heap.objs.size], its.toArray.size, _, _, fun i => (bs[i]?).getD true, rfl, Walks.list (A := X.A.in1) (I.ok.hd hc) _ p (Nat.ne_of_lt hlt) its.toArray,
    ⟨⟨_, Heap.get?_push_size _ rfl, rfl, rfl⟩, hl.push _⟩, fun i v s' Q' E' hP hQ => ?_, fun h' tk hk => ?_⟩
  · obtain ⟨b, e, rfl⟩ := hb.get i v (by simpa using hP)
    simp only [e, Option.getD_some] at hQ
    exact wpAny_truthy_bool hQ
  · have e : ((List.range its.toArray.size).all fun i => (bs[i]?).getD true) = bs.all id := by
      rw [List.size_toArray, hb.length]; exact LSm.range_all bs
    rw [e]
    exact ⟨.bl _, H, I.kept (LSm.kept_iter hk), rfl, q⟩

theorem call_sortedL : CallR X (.builtin "sorted") (fun xs H Q => ∃ (p : Addr) (ns : List Int), xs = [.ref p] ∧ SqL X.K H p (ns.map V.int) ∧ ns.length < 64 ∧ ∀ l, H l = none → Q (.ref l) (upd H l (.lst ((Mir.srt ns).map V.int)))) := by
  intro pins s σ H xs us Q I r h
  obtain ⟨p, ns, rfl, hq, h64, q⟩ := h
  obtain ⟨u, rfl, rx⟩ := vals1 r
  cases rx
  obtain ⟨its, r', pl, hz⟩ := I.list hq
  have hi : IntsAre its ns := intsAre_of r'
  have hlen := IntsAre.length hi
  refine sorted_ints pl.isList hi (by omega) fun out ns' a1 a2 a3 => ?_
  obtain ⟨e, he⟩ := sortedAll_at s.heap its out
  have e3 : ns' = Mir.srt ns := Mir.srt_of a2 a3
  subst e3
  have hz2 : ((Mir.srt ns).map V.int).length ≤ sizeLine := by
    rw [List.length_map, Mir.srt_length]
    rw [List.length_map] at hz
    exact hz
  have rv : Vals ((Mir.srt ns).map V.int) out.toList := vals_ints a1
  have hfr : H (s.heap.objs.size + 1) = none := I.hok.fresh (Nat.le_succ _)
  refine ⟨.ref (s.heap.objs.size + 1), _, I.laid (t' := s.toks) (fun _ _ => sortedAll_old) (Nat.le_succ _) ?_, rfl, q _ hfr⟩
  exact (show ObjOk X.prog X.w _ _ _ (.lst _) from ⟨hz2, out.toList, e, rv, by simpa using he⟩)

theorem call_minL (hc : X.calm = true) : CallR X (.builtin "min") (fun xs H Q => ∃ (p : Addr) (ns : List Int), xs = [.ref p] ∧ SqL X.K H p (ns.map V.int) ∧ 0 < ns.length ∧ ∀ m, m ∈ ns → (∀ a ∈ ns, m ≤ a) → Q (.int m) H) := by
  intro pins s σ H xs us Q I r h
  obtain ⟨p, ns, rfl, hq, hne, q⟩ := h
  obtain ⟨u, rfl, rx⟩ := vals1 r
  cases rx
  obtain ⟨its, r', pl, hz⟩ := I.list hq
  have hi : IntsAre its ns := intsAre_of r'
  obtain ⟨ys, hy⟩ := hi.allInts.items
  have hl' : s.heap.IsList p (intItems ys) := hy ▸ pl.isList
  have hns : ns = ys.toList.map (·.1) := by rw [← hi.numsOf, ← nums_intItems, ← hy]
  have hsz : 0 < ys.size := by
    have h3 := hne; rw [hns, List.length_map, Array.length_toList] at h3; exact h3
  refine min_intList (I.ok.hd hc) hl' hsz fun v h' tk hv hk => ?_
  obtain ⟨t, rfl⟩ := intItems_at hv
  obtain ⟨h1, h2⟩ := argBest_lt (numAt ys) (ys.size - 1)
  refine ⟨.int _, H, I.kept hk, ⟨_, rfl⟩, q _ ?_ fun a ha => ?_⟩
  · rw [hns, numAt_eq]; exact getD_mem (by rw [List.length_map, Array.length_toList]; omega)
  · rw [hns] at ha
    obtain ⟨j, hj, rfl⟩ := mem_getD ha
    rw [List.length_map, Array.length_toList] at hj
    rw [← numAt_eq]; exact h2 j (by omega)

theorem call_isinst : CallR X (.builtin "isinstance") (fun xs H Q => ∃ (x : V) (T : String) (t : Value) (b : Bool), xs = [x, .ty T] ∧ TyOf X.K H x t ∧ PySem.W.kitOne X.K t (.type T) = some b ∧ Q (.bl b) H) := by
  intro pins s σ H xs us Q I r h
  obtain ⟨x, T, t, b, rfl, ty, e, q⟩ := h
  obtain ⟨u, u', rfl, rx, ry⟩ := vals2 r
  cases (show u' = Value.type T from ry)
  exact isinst_ok I rx ty e fun tk => ⟨.bl b, H, I.tok tk, rfl, q⟩

/-! ### == of two lists of ints -/
theorem op_neL (hu : X.A.units + 64 < cLine) : OpR X (compareOp .NotEq) (fun x y H Q => ∃ (a b : Addr) (ns ms : List Int), x = .ref a ∧ y = .ref b ∧ SqL X.K H a (ns.map V.int) ∧ SqL X.K H b (ms.map V.int) ∧ Q (.bl (!decide (ns = ms))) H) := by
  intro pins s σ H x y v u Q I rx ry h
  obtain ⟨a, b, ns, ms, rfl, rfl, h1, h2, q⟩ := h
  cases rx
  cases ry
  obtain ⟨its, r1, p1, _⟩ := I.list h1
  obtain ⟨its2, r2, p2, _⟩ := I.list h2
  exact PySem.W.ke_ne_ints p1.isList p2.isList (intsAre_of r1) (intsAre_of r2) hu ⟨.bl _, H, I, rfl, q⟩
end
end L2
end

section
set_option Elab.async false
set_option linter.all false
set_option maxRecDepth 100000
set_option maxHeartbeats 1000000
namespace L2
open PySem PySem.Spec PyProof.Rows
/-! ### a list comprehension -/
section
variable {prog : Program} {w : World} {A : Around} {R : Result → Shared → Prop} {s : Shared}
/-- the loop, what is between the item and its name kept -/
theorem compLoop_go {elt target iter : Expr} {ifs : List Expr} {scope : Scope} {pos : Pos} {it acc : Value} {env : Env} (I : Nat → Shared → Prop)
    (turn : ∀ n s, I n s → wpAny (model prog w) A (pyNext it) (fun r s₁ => match r with
      | none => R (.ok .next) s₁
      | some v => wpAny (model prog w) A (letOwnedTupleGo target it v) (fun _ s₁' => wpAny (model prog w) A (assign target env v) (fun _ s₂ =>
          wpAny (model prog w) A (forIn ifs true fun c r => if r = true then do let ok ← isTrue c env (eval c env); pure (ForInStep.yield ok) else pure (ForInStep.yield r)) (fun ok s₃ =>
            if ok = true then wpAny (model prog w) A (eval elt env) (fun x s₄ =>
              wpAny (model prog w) A (call (.builtin "list.append") [acc, x]) (fun _ s₅ => ∃ m, m < n ∧ I m s₅) (fun _ _ => False) s₄) (fun _ _ => False) s₃
            else ∃ m, m < n ∧ I m s₃) (fun _ _ => False) s₂) (fun _ _ => False) s₁') (fun _ _ => False) s₁) (fun _ _ => False) s)
    (n : Nat) (h : I n s) :
    codeAny (model prog w) A (.compLoop (.ListComp elt [⟨target, iter, ifs, 0⟩] scope pos) 0 it acc env) R s := by
  refine codeAny_loop rfl I (fun n s hI => ?_) n h
  show wpAny _ A ((compTurn (.ListComp elt [⟨target, iter, ifs, 0⟩] scope pos) 0 it acc env).onRaise (fun x => do noteFrame x env; theTreesLotGoes x)) _ _ s
  refine wpAny_noted ?_
  rw [compTurn_list]
  refine wpAny_bind (wpAny_standAt (wpAny_bind (wpAny_mono (turn n s hI) (fun r s₁ h₁ => ?_) fun _ _ h' => h'.elim)))
  cases r with
  | none => exact wpAny_pure h₁
  | some v =>
    refine wpAny_bind (wpAny_mono h₁ (fun _ s₁' h₁' => ?_) fun _ _ h' => h'.elim)
    refine wpAny_bind (wpAny_mono h₁' (fun _ s₂ h₂ => wpAny_bind (wpAny_mono h₂ (fun ok s₃ h₃ => ?_) fun _ _ h' => h'.elim)) fun _ _ h' => h'.elim)
    cases ok with
    | false => exact wpAny_pure ⟨rfl, h₃⟩
    | true =>
      exact wpAny_bind (wpAny_bind (wpAny_mono h₃ (fun x s₄ h₄ => wpAny_bind (wpAny_mono h₄ (fun _ s₅ h₅ => wpAny_pure (wpAny_pure ⟨rfl, h₅⟩)) fun _ _ h' => h'.elim)) fun _ _ h' => h'.elim))
end

/-- the cells that a block takes with it -/
def clOf (env : Env) : List (Str × NameKind) → List (Str × Addr) → List (Str × Addr)
  | [], acc => acc
  | (n, k) :: r, acc => if (k == .free) = true then (match env.cells.lookup n with | some a => clOf env r ((n, a) :: acc) | none => clOf env r acc) else clOf env r acc
theorem clOf_sub {env : Env} : ∀ (l : List (Str × NameKind)) (acc : List (Str × Addr)), (∀ y c, acc.lookup y = some c → env.cells.lookup y = some c) → ∀ y c, (clOf env l acc).lookup y = some c → env.cells.lookup y = some c
  | [], acc, h => h
  | (n, k) :: r, acc, h => by
    unfold clOf
    split
    · cases e : env.cells.lookup n with
      | none => exact clOf_sub r acc h
      | some a =>
        refine clOf_sub r _ fun y c q => ?_
        rw [List.lookup_cons] at q
        cases hy : y == n with
        | true => rw [hy] at q; cases q; rw [eq_of_beq hy]; exact e
        | false => rw [hy] at q; exact h y c q
    · exact clOf_sub r acc h
theorem clOf_acc {env : Env} {y : Str} : ∀ (l : List (Str × NameKind)) (acc : List (Str × Addr)), (acc.lookup y).isSome = true → ((clOf env l acc).lookup y).isSome = true
  | [], _, h => h
  | (n, k) :: r, acc, h => by
    unfold clOf
    split
    · cases e : env.cells.lookup n with
      | none => exact clOf_acc r acc h
      | some a =>
        refine clOf_acc r _ ?_
        rw [List.lookup_cons]
        cases hy : y == n with
        | true => rfl
        | false => exact h
    · exact clOf_acc r acc h
theorem clOf_has {env : Env} {y : Str} : ∀ (l : List (Str × NameKind)) (acc : List (Str × Addr)), (y, NameKind.free) ∈ l → (env.cells.lookup y).isSome = true → ((clOf env l acc).lookup y).isSome = true
  | [], _, h, _ => nomatch h
  | (n, k) :: r, acc, h, hs => by
    unfold clOf
    rcases List.mem_cons.mp h with e | h
    · cases e
      rw [if_pos (by rfl)]
      cases e : env.cells.lookup y with
      | none => rw [e] at hs; cases hs
      | some a =>
        refine clOf_acc r _ ?_
        rw [List.lookup_cons, beq_self_eq_true]
        rfl
    · split
      · cases e : env.cells.lookup n with
        | none => exact clOf_has r acc h hs
        | some a => exact clOf_has r _ h hs
      · exact clOf_has r acc h hs

structure CompOk (X : Cx) (scope : Scope) (x : Str) (caps : List (Nat × Str)) : Prop where
  clos : closureFor scope X.env = pure (clOf X.env scope.names [])
  ok : (scope.names.all fun p => p.2 != .cell && (p.2 != .free || (X.env.cells.lookup p.1).isSome) && (p.2 != .local || scope.names.lookup p.1 == some .local)) = true
  kind : scope.kind = .function
  var : scope.names.lookup x = some .local
  nd : (x :: caps.map (·.2)).Nodup
  cap : (caps.all fun p => X.N[p.1]? == some p.2 && X.env.kindOf p.2 == some .cell && (relabel scope X.env).names.lookup p.2 == some .cell) = true

/-- the block's context -/
def compCx (X : Cx) (scope : Scope) (x : Str) (caps : List (Nat × Str)) (s₃ : Shared) (H₃ : Hp) (fp : List Addr) : Cx where
  prog := X.prog
  w := X.w
  K := X.K
  mg := X.mg
  base := X.base
  A := X.A
  N := x :: caps.map (·.2)
  s₀ := s₃
  H₀ := H₃
  env := compEnvC scope (clOf X.env scope.names []) s₃.heap.objs.size X.env
  outer := X.stack
  stack := X.stack
  ex := fp
  fn := fun _ => false
  calm := X.calm
  pn := []
  xe := fun _ _ => False

def capv (caps : List (Nat × Str)) (σ : St) : St := caps.map fun p => (σ[p.1]?).join

theorem lookup_mem {α : Type} : ∀ {l : List (Str × α)} {y : Str} {k : α}, l.lookup y = some k → (y, k) ∈ l
  | [], _, _, h => by simp at h
  | (n, k') :: r, y, k, h => by
    rw [List.lookup_cons] at h
    cases hy : y == n with
    | true => rw [hy] at h; cases h; rw [eq_of_beq hy]; exact List.mem_cons_self
    | false => rw [hy] at h; exact List.mem_cons_of_mem _ (lookup_mem h)
theorem relabel_free {scope : Scope} {env : Env} (hc : ∀ p ∈ scope.names, p.2 ≠ .cell) {y : Str} (h : (relabel scope env).names.lookup y = some .cell ∨ (relabel scope env).names.lookup y = some .free) : (y, NameKind.free) ∈ scope.names := by
  have key : ∀ k, (k = NameKind.cell ∨ k = NameKind.free) → (relabel scope env).names.lookup y = some k → (y, NameKind.free) ∈ scope.names := fun k hk h => by
    have h1 := lookup_mem h
    unfold relabel at h1
    obtain ⟨⟨n, k'⟩, hm, e⟩ := List.mem_map.mp h1
    dsimp only at e
    split at e
    · rename_i hcond
      simp only [Bool.and_eq_true] at hcond
      have hf : k' = NameKind.free := eq_of_beq hcond.1.1
      cases e
      rw [← hf]; exact hm
    · cases e
      rcases hk with rfl | rfl
      · exact absurd rfl (hc _ hm)
      · exact hm
  rcases h with h | h
  · exact key _ (.inl rfl) h
  · exact key _ (.inr rfl) h

section
variable {X : Cx} {scope : Scope} {x : Str} {caps : List (Nat × Str)}
theorem CompOk.nocell (ok : CompOk X scope x caps) : ∀ p ∈ scope.names, p.2 ≠ .cell := fun p hp => by
  have h := List.all_eq_true.mp ok.ok p hp
  simp only [Bool.and_eq_true] at h
  exact fun z => by rw [z] at h; exact absurd h.1.1 (by decide)
theorem CompOk.names (ok : CompOk X scope x caps) : ∀ p ∈ scope.names, p.2 = .local → scope.names.lookup p.1 = some .local := fun p hp e => by
  have h := List.all_eq_true.mp ok.ok p hp
  simp only [Bool.and_eq_true] at h
  have h2 := h.2
  rw [e] at h2
  simpa using h2
theorem CompOk.free (ok : CompOk X scope x caps) : ∀ y, (y, NameKind.free) ∈ scope.names → (X.env.cells.lookup y).isSome = true := fun y hy => by
  have h := List.all_eq_true.mp ok.ok _ hy
  simp only [Bool.and_eq_true] at h
  simpa using h.1.2
theorem CompOk.sub (ok : CompOk X scope x caps) : ∀ y c, (clOf X.env scope.names []).lookup y = some c → X.env.cells.lookup y = some c :=
  clOf_sub scope.names [] fun y c h => by simp at h
theorem CompOk.has (ok : CompOk X scope x caps) {y : Str} (h : (relabel scope X.env).names.lookup y = some .cell ∨ (relabel scope X.env).names.lookup y = some .free) : ∃ c, (clOf X.env scope.names []).lookup y = some c := by
  have h1 := relabel_free ok.nocell h
  exact Option.isSome_iff_exists.mp (clOf_has scope.names [] h1 (ok.free y h1))

variable {pins : List (Addr × Obj)} {σ : St} {H₃ : Hp} {s₃ : Shared} {fp : List Addr}
theorem comp_ok (ok : CompOk X scope x caps) (I : Inv X pins σ H₃ s₃) (f : ∀ b ∈ fp, FpOk X pins H₃ b) (flt : ∀ b ∈ fp, b < s₃.heap.objs.size) : (compCx X scope x caps s₃ H₃ fp).Ok where
  mod := I.mod
  kind := ok.kind
  glob := I.ok.glob
  blt := I.ok.blt
  above := Nat.le_refl _
  inj := fun y z c h1 h2 => I.ok.inj y z c (ok.sub y c h1) (ok.sub z c h2)
  has := fun y h => ok.has h
  cab := fun y c h => by cases h
  hd := I.ok.hd
  frames := I.ok.frames
  stk := .inl rfl
  exf := fun b hb => ⟨Nat.ne_of_lt (flt b hb), fun y c h => (f b hb).2.2.2.2.1 y c (ok.sub y c h)⟩
  bs := I.bs
  bsz := Nat.le_trans I.ok.bsz I.sz
  noex := fun b o e hb => by
    rcases (f b hb).2.2.2.1 with z | z
    · exact I.ok.noex b o e z
    · exact absurd (Nat.lt_of_lt_of_le (Heap.lt_size e) (Nat.le_trans I.ok.bsz z)) (Nat.lt_irrefl _)
  exfs := fun b hb hs => by
    rcases List.mem_cons.mp (I.stkSub b hs) with e | e
    · exact (f b hb).2.1 e
    · exact (f b hb).2.2.1 e
  funs := I.stack
  frf := I.stkFree

theorem comp_inv (ok : CompOk X scope x caps) (I : Inv X pins σ H₃ s₃) (f : ∀ b ∈ fp, FpOk X pins H₃ b) (flt : ∀ b ∈ fp, b < s₃.heap.objs.size) {h₁ : Heap} {m : Str → Option Value} {tk : Nat}
    (hns : h₁.Ns s₃.heap.objs.size m) (k : ∀ b o, s₃.heap.get? b = some o → h₁.get? b = some o) :
    Inv (compCx X scope x caps s₃ H₃ fp) [] (none :: capv caps σ) H₃ { s₃ with heap := h₁, toks := tk } where
  ok := comp_ok ok I f flt
  os := rfl
  bare := I.bare
  base := Un.kept k
  loc := by
    obtain ⟨mX, hnX, hl⟩ := I.loc
    refine ⟨m, hns, fun i y v e1 e2 e3 => ?_⟩
    cases i with
    | zero => simp at e2
    | succ i =>
      have e1' : (caps.map (·.2))[i]? = some y := by simpa [compCx] using e1
      have e2' : (capv caps σ)[i]? = some (some v) := by simpa using e2
      rw [List.getElem?_map] at e1'
      unfold capv at e2'
      rw [List.getElem?_map] at e2'
      cases ec : caps[i]? with
      | none => rw [ec] at e1'; cases e1'
      | some p =>
        rw [ec] at e1' e2'
        cases e1'
        have hσ : (σ[p.1]?).join = some v := by simpa using e2'
        have hσ' : σ[p.1]? = some (some v) := by
          cases q : σ[p.1]? with
          | none => rw [q] at hσ; cases hσ
          | some o => rw [q] at hσ; exact congrArg some hσ
        have hp := List.all_eq_true.mp ok.cap p (List.mem_of_getElem? ec)
        simp only [Bool.and_eq_true] at hp
        have hN : X.N[p.1]? = some p.2 := by simpa using hp.1.1
        have hk : X.env.kindOf p.2 = some .cell := by simpa using hp.1.2
        have hr : (relabel scope X.env).names.lookup p.2 = some .cell := by simpa using hp.2
        obtain ⟨u, r, lk⟩ := hl p.1 p.2 v hN hσ' (.inr (.inl hk))
        refine ⟨u, r, ?_⟩
        rcases lk with ⟨k1, _⟩ | ⟨_, c, hc, o, ho, hd⟩
        · rw [hk] at k1; cases k1
        · obtain ⟨c', hc'⟩ := ok.has (.inl hr)
          have := ok.sub _ _ hc'
          rw [hc] at this
          cases this
          exact .inr ⟨.inl hr, c, hc', o, k _ _ ho, hd⟩
  cell := fun y c h => by
    obtain ⟨v, o, ho, hd⟩ := I.cell y c (ok.sub y c h)
    exact ⟨v, o, k _ _ ho, hd⟩
  free := I.hok.fresh (Nat.le_refl _)
  freeC := fun y c h => I.freeC y c (ok.sub y c h)
  pin := fun p hp => nomatch hp
  hok := I.hok.kept k
  len := by simp [compCx, capv]

/-- behind the block -/
theorem comp_back (I : Inv X pins σ H₃ s₃) (f : ∀ b ∈ fp, FpOk X pins H₃ b) {σ' : St} {H' : Hp} {s' : Shared} {h'' : Heap} (J : Inv (compCx X scope x caps s₃ H₃ fp) [] σ' H' s') (hs : Heap.SameBut s₃.heap.objs.size s'.heap h'') :
    Inv X pins σ H' { s' with heap := h'' } := by
  have hC : H' s₃.heap.objs.size = none := J.free
  have ne : ∀ b o, s₃.heap.get? b = some o → b ≠ s₃.heap.objs.size := fun b o e => Nat.ne_of_lt (Heap.lt_size e)
  have hok : HOk X.prog X.w H' h'' := fun b ob e => by
    refine (J.hok b ob e).stay (fun c v hc q => (hs.2 c ?_).trans q) (fun _ q => q) fun _ _ q => q
    rintro rfl
    rcases hc with rfl | hc
    · rw [hC] at e; cases e
    · rw [hC] at hc; cases hc
  have un : Un (frs X.stack) fp H₃ H' s₃.heap h'' :=
    ⟨fun b o e n hb hx => (hs.2 b (ne b o e)).trans (J.base.keep b o e n hb hx), fun b o e n hb hx => by
        obtain ⟨sl, q⟩ := J.base.slot b o e n hb hx
        exact ⟨sl, (hs.2 b (ne b o e)).trans q⟩,
      J.base.free, fun b o e hx => by
        obtain ⟨o', q⟩ := J.base.there b o e hx
        exact ⟨o', (hs.2 b (ne b o e)).trans q⟩, J.base.tups, J.base.frzs, J.base.tbls⟩
  exact I.call' (s' := { s' with heap := h'' }) J.os un hok J.bare fun b hb => ⟨(f b hb).2.2.2.1, (f b hb).2.1, (f b hb).2.2.2.2.1, (f b hb).2.2.2.2.2⟩
end

/-- the tests of a comprehension -/
def PIf (Y : Cx) (ifs : List Expr) (t : TT) : Prop :=
  ∀ (pins : List (Addr × Obj)) (s : Shared) (σ : St) (H : Hp) (Q : Bool → Hp → Prop), Inv Y pins σ H s → t σ H Q →
    wpAny (model Y.prog Y.w) Y.A (forIn ifs true fun c r => if r = true then do let ok ← isTrue c Y.env (eval c Y.env); pure (ForInStep.yield ok) else pure (ForInStep.yield r)) (TP Y pins σ Q) Y.xe s
def tNoIf : TT := fun _ H Q => Q true H
theorem pif_nil {Y : Cx} : PIf Y [] tNoIf := fun _ _ _ H _ I h => wpAny_tests_nil ⟨H, I, h⟩
/-- the run of a comprehension's block, from the iterator on; cv: what it takes with it -/
def CompR (J : It) (H1 : Hp) (cv : St) (tc : TT) (te : TE) (Q : VK) : Prop := ∀ D, H1 D = none →
  ∃ W : Nat → Nat → List V → Hp → Prop, (∃ m, W 0 m [] (upd H1 D (.lst []))) ∧ ∀ i m ys H2, W i m ys H2 →
    (J.stop i H2 ∧ Q (.ref D) H2) ∨ (J.go i H2 ∧ ∀ x H3, J.yld i H2 x H3 → tc (some x :: cv) H3 fun b H4 =>
      if b = true then te (some x :: cv) H4 fun y H5 => H5 D = some (.lst ys) ∧ ys.length < sizeLine ∧ ∃ m', m' < m ∧ W (i + 1) m' (ys ++ [y]) (upd H5 D (.lst (ys ++ [y])))
      else ∃ m', m' < m ∧ W (i + 1) m' ys H4)
def tComp (caps : List (Nat × Str)) (wi : TI) (tc : TT) (te : TE) : TE := fun σ H Q => wi σ H fun J H1 => CompR J H1 (capv caps σ) tc te Q

section
variable {X : Cx} {scope : Scope} {x : Str} {px pos : Pos} {caps : List (Nat × Str)} {elt iter : Expr} {ifs : List Expr} {wi : TI} {tc : TT} {te : TE}
/-- the block, from the iterator on; S: what is wanted behind it -/
theorem comp_block (ok : CompOk X scope x caps) (hc : X.calm = true) (ht : ∀ s₃ H₃ fp, PIf (compCx X scope x caps s₃ H₃ fp) ifs tc) (he : ∀ s₃ H₃ fp, PE (compCx X scope x caps s₃ H₃ fp) elt te)
    {pins : List (Addr × Obj)} {σ : St} {s2 : Shared} {E : Value → Shared → Prop} {RR : Value → Addr → Result → Shared → Prop} {itv : Value} {Q : VK}
    (h2 : PIE X pins σ (.Name x px) (fun J H1 => CompR J H1 (capv caps σ) tc te Q) itv s2)
    (fin : ∀ D C s' m' H', s'.heap.Ns C m' → Inv X pins σ H' s' → Q (.ref D) H' → (H' C = none ∧ X.s₀.heap.objs.size ≤ C ∧ C ≠ X.env.locals ∧ (∀ y c, X.env.cells.lookup y = some c → c ≠ C) ∧ ∀ p ∈ X.pn ++ pins, p.1 ≠ C) →
      (∀ h'', Heap.SameBut C s'.heap h'' → EP X pins σ Q (.ref D) { s' with heap := h'' }) → RR (.ref D) C (.ok .next) s') :
    wpAny (model X.prog X.w) X.A (newList []) (fun acc s₃ => wpAny (model X.prog X.w) X.A (newFunctionEnv scope X.env.globals (clOf X.env scope.names []) [] X.env.qual none .none (some X.env)) (fun cenv s₄ =>
      codeAny (model X.prog X.w) X.A (.compStart (.ListComp elt [⟨.Name x px, iter, ifs, 0⟩] scope pos) 0 itv acc { cenv with scope := relabel scope X.env }) (RR acc cenv.locals) s₄) E s₃) E s2 := by
  obtain ⟨it, fp, tn, J, H2, rfl, I2, T, st2, f2, h2⟩ := h2
  obtain ⟨W, ⟨m0, w0⟩, turn⟩ := h2 s2.heap.objs.size I2.fresh
  refine wpAny_newObj_type (wpAny_newFunctionEnv ok.nocell (by intro y hy; simp at hy) (fun h₁ hns₁ hsb₁ => ?_) ok.kind)
  dsimp only at hns₁ hsb₁ ⊢
  have I3 : Inv X pins σ (upd H2 s2.heap.objs.size (.lst [])) { s2 with heap := s2.heap.push { cls := .type "list", data := .seq ([] : List Value).toArray } } := I2.lnew (its := []) (t' := s2.toks) .nil (Nat.zero_le _)
  generalize hs3 : ({ s2 with heap := s2.heap.push { cls := .type "list", data := .seq ([] : List Value).toArray } } : Shared) = s3 at I3
  have hh : s2.heap.push { cls := .type "list", dict := none, data := .seq ([] : List Value).toArray } = s3.heap := by rw [← hs3]
  rw [hh] at hns₁ hsb₁ ⊢
  have e4 : ({ s2 with heap := h₁, toks := s2.toks + ([] : List (Str × Value)).length } : Shared) = { s3 with heap := h₁, toks := s3.toks } := by rw [← hs3]; rfl
  have k3 : ∀ b o, s2.heap.get? b = some o → s3.heap.get? b = some o := fun b o e => by rw [← hh]; exact Heap.get?_push_of_some _ e
  have k4 : ∀ b o, s3.heap.get? b = some o → h₁.get? b = some o := fun b o e => hsb₁.extBut b o (Nat.ne_of_lt (Heap.lt_size e)) (Heap.get?_push_of_some _ e)
  have flt2 : ∀ b ∈ fp, b < s2.heap.objs.size := fun b hb => by obtain ⟨o, e, _⟩ := T.obj _ _ st2 b hb; exact Heap.lt_size e
  have sz3 : s3.heap.objs.size = s2.heap.objs.size + 1 := by rw [← hh, Heap.size_push]
  have flt : ∀ b ∈ fp, b < s3.heap.objs.size := fun b hb => by rw [sz3]; exact Nat.lt_succ_of_lt (flt2 b hb)
  have f3 : ∀ b ∈ fp, FpOk X pins (upd H2 s2.heap.objs.size (.lst [])) b := fun b hb => ⟨by rw [upd_ne (Nat.ne_of_lt (flt2 b hb))]; exact (f2 b hb).1, (f2 b hb).2⟩
  have I4 := comp_inv ok I3 f3 flt (tk := s3.toks) hns₁ k4
  have st4 : tn 0 h₁ := T.keep _ _ _ st2 fun b _ o e => k4 b o (k3 b o e)
  -- the objects of the iterator, in the block
  have f4 : ∀ {H' : Hp}, (∀ b ∈ fp, H' b = none) → ∀ b ∈ fp, FpOk (compCx X scope x caps s3 (upd H2 s2.heap.objs.size (.lst [])) fp) [] H' b := fun hn b hb =>
    ⟨hn b hb, Nat.ne_of_lt (flt b hb), I4.ok.exfs b hb, .inl hb, (I4.ok.exf b hb).2, fun p hp => nomatch hp⟩
  have loop : ∀ s4 : Shared, s4 = { s3 with heap := h₁, toks := s3.toks } →
      codeAny (model X.prog X.w) X.A (.compLoop (.ListComp elt [⟨.Name x px, iter, ifs, 0⟩] scope pos) 0 (.ref it) (.ref s2.heap.objs.size) (compEnvC scope (clOf X.env scope.names []) s3.heap.objs.size X.env))
        (RR (.ref s2.heap.objs.size) s3.heap.objs.size) s4 := by
    rintro s4 rfl
    refine compLoop_go (fun n s' => ∃ i ys v0 H', Inv (compCx X scope x caps s3 (upd H2 s2.heap.objs.size (.lst [])) fp) [] (v0 :: capv caps σ) H' s' ∧ tn i s'.heap ∧ (∀ b ∈ fp, H' b = none) ∧ W i n ys H') ?_ m0
      ⟨0, [], none, _, I4, st4, fun b hb => (f3 b hb).1, w0⟩
    rintro n s5 ⟨i, ys, v0, H5, I5, st5, fr5, w5⟩
    rcases turn i n ys H5 w5 with ⟨stop, qn⟩ | ⟨go, step⟩
    · refine thn (T.done (compCx X scope x caps s3 (upd H2 s2.heap.objs.size (.lst [])) fp) rfl rfl rfl hc i [] s5 _ H5 _ I5 (f4 fr5) st5 stop) fun r s6 ⟨hr, I6⟩ => ?_
      subst hr
      obtain ⟨m', hn6, _⟩ := I6.loc
      refine fin _ _ s6 m' H5 hn6 (comp_back (h'' := s6.heap) I3 f3 I6 ⟨rfl, fun _ _ => rfl⟩) qn ⟨I6.free, I3.sz, ?_, fun y c e => ?_, fun p hp => ?_⟩ fun h'' hs'' => ⟨.ref _, H5, comp_back I3 f3 I6 hs'', rfl, qn⟩
      · obtain ⟨_, ⟨oL, _, _, hoL, _⟩, _⟩ := I3.loc
        exact Ne.symm (Nat.ne_of_lt (Heap.lt_size hoL))
      · obtain ⟨_, oc, hoc, _⟩ := I3.cell y c e
        exact Nat.ne_of_lt (Heap.lt_size hoc)
      · exact Nat.ne_of_lt (Heap.lt_size (I3.pin p hp).1)
    · refine thn (T.item (compCx X scope x caps s3 (upd H2 s2.heap.objs.size (.lst [])) fp) rfl rfl rfl hc i [] s5 _ H5 _ I5 (f4 fr5) st5 go) fun r s6 ⟨u, hr, h6⟩ => ?_
      subst hr
      refine thn h6 fun _ s7 ⟨v, H7, I7, r7, y7, st7, fr7⟩ => ?_
      have I7' := I7.pinned (f4 fr7) (T.obj _ _ st7)
      refine wpAny_assign_Name ?_
      refine store_ok (i := 0) I7' ok.nd rfl (.inl (lookup_relabel_local ok.var)) r7 (fun s8 I8 => ?_) (.inr (lookup_relabel_local ok.var))
      refine thn (ht _ _ _ _ s8 _ H7 _ I8 (step v H7 y7)) fun b s9 ⟨H9, I9, q9⟩ => ?_
      have back : ∀ {s' : Shared} {H' : Hp}, Inv (compCx X scope x caps s3 (upd H2 s2.heap.objs.size (.lst [])) fp) ([] ++ pinsAt fp s7.heap) (some v :: capv caps σ) H' s' → tn (i + 1) s'.heap ∧ ∀ b ∈ fp, H' b = none := fun {s' H'} I' =>
        ⟨T.keep _ _ _ st7 fun b hb o e => (I'.pin (b, o) (List.mem_append_right _ (List.mem_append_right _ (mem_pinsAt hb e)))).1, fun b hb => by
          obtain ⟨o, e, d⟩ := T.obj _ _ st7 b hb
          exact (I'.pin (b, o) (List.mem_append_right _ (List.mem_append_right _ (mem_pinsAt hb e)))).2.1⟩
      cases b with
      | false =>
        obtain ⟨m', hm, w9⟩ := q9
        exact ⟨m', hm, i + 1, ys, some v, H9, I9.unpinned, (back I9).1, (back I9).2, w9⟩
      | true =>
        refine thn (he _ _ _ _ s9 _ H9 _ I9 q9) fun y s10 ⟨z, H10, I10, r10, hD, hz, m', hm, w10⟩ => ?_
        refine thn (mt_append _ s10 _ H10 (.ref s2.heap.objs.size) [z] (.ref s2.heap.objs.size) [y] (fun v H' => v = .non ∧ H' = upd H10 s2.heap.objs.size (.lst (ys ++ [z]))) I10 rfl (.cons r10 .nil) ⟨_, ys, z, rfl, rfl, hD, hz, rfl, rfl⟩) fun _ s11 ⟨v11, H11, I11, _, _, e11⟩ => ?_
        subst e11
        exact ⟨m', hm, i + 1, ys ++ [z], some v, _, I11.unpinned, (back I11).1, (back I11).2, w10⟩
  rw [e4]
  exact codeAny_compStart_list (loop _ rfl) (T.self X.A 0 _ _ _ st4 (loop _ rfl))

theorem pe_comp (ok : CompOk X scope x caps) (hc : X.calm = true) (hi : PI X (.Name x px) iter wi) (ht : ∀ s₃ H₃ fp, PIf (compCx X scope x caps s₃ H₃ fp) ifs tc) (he : ∀ s₃ H₃ fp, PE (compCx X scope x caps s₃ H₃ fp) elt te)
    (hs : ∀ x, foldedSetIterable iter X.env x = pure x := by intro _; rfl) : PE X (.ListComp elt [⟨.Name x px, iter, ifs, 0⟩] scope pos) (tComp caps wi tc te) := by
  intro pins s σ H Q I h
  rw [eval_ListComp]
  refine wpAny_comprehension_free (use := none) rfl hs ok.clos ok.kind ok.names (thn (hi pins s σ H _ I h) fun v s1 h1 => thn h1 fun itv s2 h2 => ?_)
  refine comp_block (RR := fun acc C => compPost (model X.prog X.w) X.A X.xe none (EP X pins σ Q) acc C) ok hc ht he h2 fun D C s' m' H' hn _ _ _ hq => ?_
  exact ⟨m', hn, hq⟩
/-- x = a comprehension: the name is stored ahead of the block's end -/
theorem ps_setc {i : Nat} {y : Str} {py spos : Pos} (hN : X.N.Nodup) (hi : X.N[i]? = some y) (hy : Loc X.env.scope y) (ok : CompOk X scope x caps) (hc : X.calm = true) (hit : PI X (.Name x px) iter wi) (ht : ∀ s₃ H₃ fp, PIf (compCx X scope x caps s₃ H₃ fp) ifs tc) (he : ∀ s₃ H₃ fp, PE (compCx X scope x caps s₃ H₃ fp) elt te)
    (hsw : swapsWith (.ListComp elt [⟨.Name x px, iter, ifs, 0⟩] scope pos) (some (.Name y py)) spos.line X.env = pure true := by rfl) (hf : X.fn y = true ∨ X.env.scope.names.lookup y = some .local := by first | exact .inl rfl | exact .inr rfl | assumption)
    (hs : ∀ x, foldedSetIterable iter X.env x = pure x := by intro _; rfl) : PS X (.Assign [.Name y py] (.ListComp elt [⟨.Name x px, iter, ifs, 0⟩] scope pos) spos) (fun D σ H => tComp caps wi tc te σ H fun v H1 => D.nx (σ.set i (some v)) H1) := by
  intro pins s σ H D I h
  rw [exec_Assign_Name_used _ _ _ _ hsw]
  refine wpAny_bind (wpAny_standAt (wpAny_bind ?_))
  show wpAny _ X.A (do let _ ← comprehension (.ListComp elt [⟨.Name x px, iter, ifs, 0⟩] scope pos) scope X.env _ (newList []) false (eval iter X.env) (some (assign (.Name y py) X.env))) _ _ s
  refine wpAny_bind (wpAny_mono (wpAny_comprehension_free (Q := fun _ s' => SP X pins D .next s') rfl hs ok.clos ok.kind ok.names (thn (hit pins s σ H _ I h) fun v s1 h1 => thn h1 fun itv s2 h2 => ?_))
    (fun _ s' hq => wpAny_pure (wpAny_pure hq)) fun _ _ e => e)
  refine comp_block (RR := fun acc C => compPost (model X.prog X.w) X.A X.xe (some (assign (.Name y py) X.env)) (fun _ s' => SP X pins D .next s') acc C) ok hc ht he h2 fun Dd C s' m' H' hn I' q' fr _ => ?_
  obtain ⟨f1, f2, f3, f4, f5⟩ := fr
  refine wpAny_assign_Name (store_ok2 I' hN hi hy (show RelV (.ref Dd) (.ref Dd) from rfl) (fun s8 I8 ⟨a, hsb, ha⟩ => ?_) hf)
  have haC : C ≠ a := by
    rcases ha with rfl | ha
    · exact f3
    · exact Ne.symm (f4 _ _ ha)
  refine ⟨m', hn.sameBut hsb haC, fun h' hs' => ⟨_, H', ?_, q'⟩⟩
  exact I8.turned (it := C) (h' := h') (t' := s8.toks) (fun b o hb e => (hs'.2 b hb).trans e) f1 f3 (.inr f2) f4 f5
end
end L2
end

section
set_option Elab.async false
set_option linter.all false
set_option maxRecDepth 100000
set_option maxHeartbeats 1000000
namespace L2
open PySem PySem.Spec PyProof.Rows

theorem same_new {H : Hp} {p : Addr} (h : H p = none) (o : HO) : Same H (upd H p o) := fun b u q => by rw [upd_ne (ne_of_none q h)]; exact q
theorem Same.none {H H' : Hp} (e : Same H H') {p : Addr} (h : H' p = none) : H p = none := by
  cases q : H p with
  | none => rfl
  | some o => rw [e p o q] at h; cases h

/-! ### what an iterator yields -/
structure Src (J : It) (xs : List V) (G : Hp → Prop) : Prop where
  go : ∀ i H, G H → i < xs.length → J.go i H
  yld : ∀ i H x H', G H → i < xs.length → J.yld i H x H' → H' = H ∧ xs[i]? = some x
  stop : ∀ H, G H → J.stop xs.length H
theorem src_list {K : PySem.W.Frag} {a : Addr} {xs : List V} : Src (Itl K a) xs (fun H => SqL K H a xs) where
  go := fun i H g hi => ⟨xs, xs[i], g, List.getElem?_eq_getElem hi⟩
  yld := fun i H x H' g hi y => ⟨y.1, y.2 xs g⟩
  stop := fun H g => ⟨xs, g, Nat.le_refl _⟩
/-- a comprehension whose elements are plain values -/
theorem comp_scal {J : It} {xs : List V} {G : Hp → Prop} {cv : St} {te : TE} {H1 : Hp} {Q : VK} (S : Src J xs G) (g0 : G H1) (gm : ∀ H', Same H1 H' → G H') (hz : xs.length ≤ sizeLine) (f : V → V)
    (he : ∀ x H' (Q' : VK), x ∈ xs → Same H1 H' → (∀ H5, Same H' H5 → Q' (f x) H5) → te (some x :: cv) H' Q')
    (q : ∀ D H', H1 D = Option.none → Same H1 H' → H' D = some (.lst (xs.map f)) → Q (.ref D) H') :
    CompR J H1 cv tNoIf te Q := by
  intro D hD
  refine ⟨fun i m ys H2 => i ≤ xs.length ∧ m = xs.length - i ∧ ys = (xs.take i).map f ∧ H2 D = some (.lst ys) ∧ Same H1 H2, ⟨_, Nat.zero_le _, rfl, rfl, upd_same, same_new hD _⟩, ?_⟩
  rintro i m ys H2 ⟨hi, rfl, rfl, hD2, g2⟩
  by_cases hlt : i < xs.length
  · refine .inr ⟨S.go i H2 (gm _ g2) hlt, fun x H3 y3 => ?_⟩
    obtain ⟨rfl, hx⟩ := S.yld i H2 x H3 (gm _ g2) hlt y3
    show te (some x :: cv) H3 _
    refine he x H3 _ (List.mem_of_getElem? hx) g2 fun H5 g5 => ⟨g5 _ _ hD2, ?_, xs.length - (i + 1), by omega, hlt, rfl, ?_, upd_same, fun b o e => ?_⟩
    · rw [List.length_map, List.length_take]; omega
    · rw [List.take_succ, hx, List.map_append]; rfl
    · rw [upd_ne (ne_of_none e hD)]; exact g5 _ _ (g2 _ _ e)
  · have e : i = xs.length := by omega
    subst e
    rw [List.take_length] at hD2
    exact .inl ⟨S.stop H2 (gm _ g2), q D H2 hD g2 hD2⟩

/-! ### lists of lists of ints -/
def Ls (H : Hp) (r : Addr) (ns : List Int) : Prop := H r = some (.lst (ns.map V.int))
def LL (H : Hp) (a : Addr) (rs : List Addr) (xss : List (List Int)) : Prop := H a = some (.lst (rs.map V.ref)) ∧ Paired (Ls H) rs xss
theorem Paired.same {H H' : Hp} (g : Same H H') : ∀ {rs : List Addr} {xss : List (List Int)}, Paired (Ls H) rs xss → Paired (Ls H') rs xss
  | _, _, .nil => .nil
  | _, _, .cons h t => .cons (g _ _ h) (Paired.same g t)
theorem Paired.but {H H' : Hp} {D : Addr} (g : ∀ b o, b ≠ D → H b = some o → H' b = some o) : ∀ {rs : List Addr} {xss : List (List Int)}, (∀ r ∈ rs, r ≠ D) → Paired (Ls H) rs xss → Paired (Ls H') rs xss
  | _, _, _, .nil => .nil
  | _, _, hn, .cons h t => .cons (g _ _ (hn _ List.mem_cons_self) h) (Paired.but g (fun r hr => hn r (List.mem_cons_of_mem _ hr)) t)
/-! ### displays of constants -/
def decI : Expr → Option Int
  | .Constant (.int i) _ _ => some i
  | _ => none
def decIs : List Expr → Option (List Int)
  | [] => some []
  | e :: r => match decI e, decIs r with
    | some i, some l => some (i :: l)
    | _, _ => none
def decP : Expr → Option (Int × List Int)
  | .Tuple [e, .List es _] _ _ => match decI e, decIs es with
    | some i, some l => some (i, l)
    | _, _ => none
  | _ => none
def decPs : List Expr → Option (List (Int × List Int))
  | [] => some []
  | e :: r => match decP e, decPs r with
    | some i, some l => some (i :: l)
    | _, _ => none
section
variable {X : Cx}
theorem PE.imp {e : Expr} {t t' : TE} (h : PE X e t) (f : ∀ σ H Q, t' σ H Q → t σ H Q) : PE X e t' := fun pins s σ H Q I q => h pins s σ H Q I (f σ H Q q)
theorem PA.imp {e : List Expr} {t t' : TA} (h : PA X e t) (f : ∀ σ H Q, t' σ H Q → t σ H Q) : PA X e t' := fun pos pins s σ H Q I q => h pos pins s σ H Q I (f σ H Q q)
theorem decI_eq {e : Expr} {i : Int} (h : decI e = some i) : ∃ j pos, e = .Constant (.int i) j pos := by
  unfold decI at h
  split at h
  · cases h; exact ⟨_, _, rfl⟩
  · cases h
theorem pa_ints : ∀ {es : List Expr} {l : List Int}, decIs es = some l → PA X es (fun _ H Q => Q (l.map V.int) H)
  | [], l, h => by cases h; exact pa_nil
  | e :: r, l, h => by
    unfold decIs at h
    split at h
    · rename_i i l' h1 h2
      cases h
      obtain ⟨j, pos, rfl⟩ := decI_eq h1
      exact pa_cons pe_int (pa_ints h2)
    · cases h
/-- a tuple of an int and a list of ints -/
def Pr (H : Hp) (v : V) (p : Int × List Int) : Prop := ∃ a b, v = .ref a ∧ H a = some (.tup [.int p.1, .ref b]) ∧ Ls H b p.2
theorem Pr.same {H H' : Hp} (g : Same H H') {v : V} {p : Int × List Int} (h : Pr H v p) : Pr H' v p := let ⟨a, b, e, h1, h2⟩ := h; ⟨a, b, e, g _ _ h1, g _ _ h2⟩
theorem pe_item {e : Expr} {p : Int × List Int} (h : decP e = some p) (hz : p.2.length ≤ 1000) : PE X e (fun _ H Q => ∀ v H', Same H H' → Pr H' v p → Q v H') := by
  unfold decP at h
  split at h
  · split at h
    · rename_i e' es p1 k p2 i l h1 h2
      cases h
      obtain ⟨j, pos, rfl⟩ := decI_eq h1
      refine (pe_tup (pa_cons pe_int (pa_cons (pe_lst (pa_ints h2)) pa_nil))).imp fun σ H Q q => ?_
      refine ⟨by rw [List.length_map]; exact Nat.le_of_lt (small1000 hz), fun b hb => ⟨by show 2 ≤ sizeLine; decide, fun a ha => ?_⟩⟩
      have g1 : Same H (upd H b (.lst (l.map V.int))) := same_new hb _
      refine q _ _ (g1.trans (same_new ha _)) ⟨a, b, rfl, upd_same, ?_⟩
      exact same_new ha _ _ _ upd_same
    · cases h
  · cases h
theorem Paired.pr {H H' : Hp} (g : Same H H') : ∀ {vs : List V} {ps : List (Int × List Int)}, Paired (Pr H) vs ps → Paired (Pr H') vs ps
  | _, _, .nil => .nil
  | _, _, .cons h t => .cons (h.same g) (Paired.pr g t)
theorem pa_pairs : ∀ {es : List Expr} {ps : List (Int × List Int)}, decPs es = some ps → (∀ p ∈ ps, p.2.length ≤ 1000) → PA X es (fun _ H Q => ∀ vs H', Same H H' → Paired (Pr H') vs ps → Q vs H')
  | [], ps, h, _ => by cases h; exact pa_nil.imp fun σ H Q q => q [] H (Same.refl H) .nil
  | e :: r, ps, h, hz => by
    unfold decPs at h
    split at h
    · rename_i p l h1 h2
      cases h
      have he : decP e = some p := h1
      have hst : starEach (e :: r) X.env = (false, eval e X.env) :: starEach r X.env := by
        unfold decP at h1
        split at h1
        · rfl
        · cases h1
      refine (pa_cons (pe_item he (hz p List.mem_cons_self)) (pa_pairs h2 fun p hp => hz p (List.mem_cons_of_mem _ hp)) hst).imp fun σ H Q q => ?_
      exact fun v H1 g1 h1 vs H2 g2 h2 => q _ H2 (g1.trans g2) (.cons (h1.same g2) h2)
    · cases h
theorem paired_get {α β : Type} {F : α → β → Prop} : ∀ {l₁ : List α} {l₂ : List β} {i : Nat} {b : β}, Paired F l₁ l₂ → l₂[i]? = some b → ∃ a, l₁[i]? = some a ∧ F a b
  | _, _, _, _, .nil, h => by simp at h
  | _, _, 0, _, .cons h _, e => by simp at e; subst e; exact ⟨_, rfl, h⟩
  | _, _, i + 1, _, .cons _ t, e => by
    obtain ⟨a, h1, h2⟩ := paired_get (i := i) t (by simpa using e)
    exact ⟨a, by simpa using h1, h2⟩
end

/-! ### a def by its name -/
structure Df (P : Program) (w : World) (K : PySem.W.Frag) (mg : Str → Option Value) (base : Heap) (k : Nat) (x : Str) (ps : List Str) (sp : Sp) : Prop where
  ex : ∃ (f : Addr) (fd : FuncData), FnOk P w K mg base CX0 k f fd ps sp ∧ Binds K fd ps [] ∧ PySem.W.keepIn K (.ref f) = true ∧ mg x = some (.ref f)
section
variable {X : Cx}
theorem pe_df {n k : Nat} {x : Str} {ps : List Str} {sp : Sp} {p pos : Pos} {e : Expr} {es : List Expr} {t : TA} (D : Df X.prog X.w X.K X.mg X.base k x ps sp) (hr : Room n X.A) (hk : k ≤ n) (hg : Gl X x) (ha : PA X (e :: es) t)
    (hdb : (x == ("__debug__" : Str)) = false := by decide) (he : starEach (e :: es) X.env = (false, eval e X.env) :: starEach es X.env := by rfl) (hpl : (backTo pos (starEach es X.env)).any (·.1) = false := by rfl) :
    PE X (.Call (.Name x p) (e :: es) [] pos) (tCall sp [] E0 t) := by
  obtain ⟨f, fd, F, b, kp, m⟩ := D.ex
  exact pe_call F (hr.mono hk) hg m kp b .nil pass0 ha hdb he hpl
end
theorem df_mk {P : Program} {w : World} {K : PySem.W.Frag} {mg : Str → Option Value} {base : Heap} {k : Nat} {x : Str} {ps : List Str} {sp : Sp} {f : Addr} {fd : FuncData} (F : FnOk P w K mg base CX0 k f fd ps sp) (b : Binds K fd ps []) (kp : PySem.W.keepIn K (.ref f) = true) (m : mg x = some (.ref f)) :
    Df P w K mg base k x ps sp := ⟨f, fd, F, b, kp, m⟩

/-! ### numbers -/
theorem mul_ok {m n : Nat} {x y : Int} (hx : x.natAbs < 2 ^ m) (hy : y.natAbs < 2 ^ n) (h : m + n ≤ 134217728) : IntMulOk x y := IntMulOk.of_le (intBits_le_iff.mpr hx) (intBits_le_iff.mpr hy) h
theorem cut_take (xs : List V) {p : Nat} (h : p ≤ xs.length) : cutV xs none (some (p : Int)) = xs.take p := by
  unfold cutV
  rw [HT.sIx_none, HT.sIx_nat, Nat.min_eq_left h, List.drop_zero, Nat.sub_zero]
theorem cut_drop (xs : List V) (p : Nat) : cutV xs (some (p : Int)) none = xs.drop p := by
  unfold cutV
  rw [HT.sIx_none, HT.sIx_nat]
  by_cases h : p ≤ xs.length
  · rw [Nat.min_eq_left h, List.take_of_length_le (by rw [List.length_drop]; exact Nat.le_refl _)]
  · rw [Nat.min_eq_right (by omega), List.drop_eq_nil_of_le (Nat.le_refl _), List.drop_eq_nil_of_le (by omega), List.take_nil]

theorem kit_int_int (K : PySem.W.Frag) : PySem.W.kitOne K (.type "int") (.type "int") = some true := rfl
theorem kit_int_bool (K : PySem.W.Frag) : PySem.W.kitOne K (.type "int") (.type "bool") = some false := by kernel_rfl
theorem kit_list_list (K : PySem.W.Frag) : PySem.W.kitOne K (.type "list") (.type "list") = some true := rfl
end L2
end

section
set_option Elab.async false
set_option linter.all false
set_option maxRecDepth 100000
set_option maxHeartbeats 1000000
namespace L2
open PySem PySem.Spec PyProof.Rows
section
variable {X : Cx}
end
end L2
end

section
set_option Elab.async false
set_option linter.all false
set_option maxRecDepth 100000
set_option maxHeartbeats 1000000
namespace L2
open PySem PySem.Spec PyProof.Rows
/-- a comprehension by the index of its item: which items, and what of each -/
theorem comp_gen {J : It} {xs : List V} {G : Hp → Prop} {cv : St} {tc : TT} {te : TE} {H1 : Hp} {Q : VK} (S : Src J xs G) (gm : ∀ H', Same H1 H' → G H') (hz : xs.length ≤ sizeLine) (pb : Nat → Bool) (g : Nat → V)
    (ht : ∀ i x H' (Qb : Bool → Hp → Prop), xs[i]? = some x → Same H1 H' → (∀ H5, Same H' H5 → Qb (pb i) H5) → tc (some x :: cv) H' Qb)
    (he : ∀ i x H' (Q' : VK), xs[i]? = some x → pb i = true → Same H1 H' → (∀ H5, Same H' H5 → Q' (g i) H5) → te (some x :: cv) H' Q')
    (q : ∀ D H', H1 D = Option.none → Same H1 H' → H' D = some (.lst (((List.range xs.length).filter pb).map g)) → Q (.ref D) H') :
    CompR J H1 cv tc te Q := by
  intro D hD
  refine ⟨fun i m ys H2 => i ≤ xs.length ∧ m = xs.length - i ∧ ys = ((List.range i).filter pb).map g ∧ H2 D = some (.lst ys) ∧ Same H1 H2, ⟨_, Nat.zero_le _, rfl, rfl, upd_same, same_new hD _⟩, ?_⟩
  rintro i m ys H2 ⟨hi, rfl, rfl, hD2, g2⟩
  by_cases hlt : i < xs.length
  · refine .inr ⟨S.go i H2 (gm _ g2) hlt, fun x H3 y3 => ?_⟩
    obtain ⟨rfl, hx⟩ := S.yld i H2 x H3 (gm _ g2) hlt y3
    refine ht i x H3 _ hx g2 fun H4 g4 => ?_
    cases hb : pb i with
    | true =>
      refine iteTT (he i x H4 _ hx hb (g2.trans g4) fun H5 g5 => ⟨g5 _ _ (g4 _ _ hD2), ?_, xs.length - (i + 1), by omega, hlt, rfl, ?_, upd_same, fun b o e => ?_⟩)
      · rw [List.length_map]
        have := List.length_filter_le pb (List.range i)
        rw [List.length_range] at this
        omega
      · rw [List.range_succ, List.filter_append, List.map_append, List.filter_cons_of_pos hb]; rfl
      · rw [upd_ne (ne_of_none e hD)]; exact g5 _ _ (g4 _ _ (g2 _ _ e))
    | false =>
      refine iteFF ⟨xs.length - (i + 1), by omega, hlt, rfl, ?_, g4 _ _ hD2, g2.trans g4⟩
      rw [List.range_succ, List.filter_append, List.filter_cons_of_neg (by rw [hb]; exact Bool.false_ne_true), List.filter_nil, List.append_nil]
  · have e : i = xs.length := by omega
    subst e
    exact .inl ⟨S.stop H2 (gm _ g2), q D H2 hD g2 hD2⟩
where
  iteTT {A B : Prop} (h : A) : if true = true then A else B := iteT h
  iteFF {A B : Prop} (h : B) : if false = true then A else B := iteF h
/-- the same, every item taken -/
theorem comp_ix {J : It} {xs : List V} {G : Hp → Prop} {cv : St} {te : TE} {H1 : Hp} {Q : VK} (S : Src J xs G) (gm : ∀ H', Same H1 H' → G H') (hz : xs.length ≤ sizeLine) (g : Nat → V)
    (he : ∀ i x H' (Q' : VK), xs[i]? = some x → Same H1 H' → (∀ H5, Same H' H5 → Q' (g i) H5) → te (some x :: cv) H' Q')
    (q : ∀ D H', H1 D = Option.none → Same H1 H' → H' D = some (.lst ((List.range xs.length).map g)) → Q (.ref D) H') :
    CompR J H1 cv tNoIf te Q :=
  comp_gen S gm hz (fun _ => true) g (fun i x H' Qb _ _ k => k H' (Same.refl _)) (fun i x H' Q' hx _ g1 k => he i x H' Q' hx g1 k) fun D H' hD g1 h => q D H' hD g1 (by rw [List.filter_eq_self.mpr (fun _ _ => rfl)] at h; exact h)
/-! the same rules within a comprehension's block: the fragment by its name -/
section
variable {X : Cx} (K : PySem.W.Frag) (hK : X.K = K)
include hK
end
end L2
end

section
set_option Elab.async false
set_option linter.all false
set_option maxRecDepth 100000
set_option maxHeartbeats 1000000
namespace LC
open PySem PySem.SeqAt PyProof.Rows
open PySem.AutoSeq1 (wpAny_loadPart')
open PySem.MeetsSeq PySem.MeetsSeq2 PySem.MeetsSeq3
end LC
namespace L2
open PySem PySem.Spec PyProof.Rows
section
variable {X : Cx}
end
end L2
end

section
set_option linter.all false
set_option maxHeartbeats 1000000
namespace Srt
open PySem PySem.W PyProof.Rows
/-- what stands at a place -/
def g (p : Array Nat) (i : Nat) : Nat := p.getD i 0
theorem g_eq (p : Array Nat) (i : Nat) : g p i = (p[i]?).getD 0 := by unfold g; simp
theorem g_rev {p : Array Nat} {i j : Nat} (hj : j ≤ p.size) (k : Nat) : g (kas_rev p i j) k = if i ≤ k ∧ k < j then g p (i + j - 1 - k) else g p k := by
  rw [g_eq, g_eq, g_eq]
  unfold kas_rev
  rw [getElem?_mirror_all hj]
  split <;> rfl
/-- a weak order -/
structure Ord (lt : Nat → Nat → Bool) : Prop where
  ir : ∀ a, lt a a = false
  asy : ∀ a b, lt a b = true → lt b a = false
  nt : ∀ a b c, lt a c = true → lt a b = true ∨ lt b c = true
variable {lt : Nat → Nat → Bool}
theorem Ord.le3 (O : Ord lt) {a b c : Nat} (h1 : lt b a = false) (h2 : lt c b = false) : lt c a = false := by
  cases h : lt c a with
  | false => rfl
  | true =>
    rcases O.nt c b a h with z | z
    · rw [h2] at z; cases z
    · rw [h1] at z; cases z
/-- rising up to k; falling up to k -/
def Up (lt : Nat → Nat → Bool) (p : Array Nat) (k : Nat) : Prop := ∀ i j, i ≤ j → j < k → lt (g p j) (g p i) = false
def Dn (lt : Nat → Nat → Bool) (p : Array Nat) (k : Nat) : Prop := ∀ i j, i ≤ j → j < k → lt (g p i) (g p j) = false
theorem Up.one (O : Ord lt) (p : Array Nat) : Up lt p 1 := fun i j h1 h2 => by
  have : i = j := by omega
  subst this
  exact O.ir _
theorem Up.more (O : Ord lt) {p : Array Nat} {k : Nat} (h : Up lt p k) (hk : 1 ≤ k) (n : lt (g p k) (g p (k - 1)) = false) : Up lt p (k + 1) := fun i j h1 h2 => by
  rcases Nat.lt_or_ge j k with z | z
  · exact h i j h1 z
  · have e : j = k := by omega
    subst e
    rcases Nat.lt_or_ge i j with y | y
    · exact O.le3 (h i (j - 1) (by omega) (by omega)) n
    · have : i = j := by omega
      subst this
      exact O.ir _
theorem Dn.more (O : Ord lt) {p : Array Nat} {k : Nat} (h : Dn lt p k) (hk : 1 ≤ k) (n : lt (g p (k - 1)) (g p k) = false) : Dn lt p (k + 1) := fun i j h1 h2 => by
  rcases Nat.lt_or_ge j k with z | z
  · exact h i j h1 z
  · have e : j = k := by omega
    subst e
    rcases Nat.lt_or_ge i j with y | y
    · exact O.le3 n (h i (j - 1) (by omega) (by omega))
    · have : i = j := by omega
      subst this
      exact O.ir _

section
variable {n : Nat} {cmp : Nat → Nat → (Bool → Shared → Prop) → Shared → Prop} {s : Shared}
/-- the order of n items -/
def Good (n : Nat) (p : Array Nat) : Prop := p.Perm (List.toArray (List.range n))
theorem Good.size {p : Array Nat} (h : Good n p) : p.size = n := by
  have := Array.Perm.size_eq h
  simpa using this
theorem Good.below {p : Array Nat} (h : Good n p) {i : Nat} (hi : i < n) : g p i < n := by
  have hs := h.size
  have hm : p[i]'(by omega) ∈ p.toList := by simp
  have := (Array.perm_iff_toList_perm.mp h).mem_iff.mp hm
  have e : g p i = p[i]'(by omega) := by rw [g_eq, Array.getElem?_eq_getElem (by omega)]; rfl
  rw [e]
  simpa using this
/-- the last numbers that are alike -/
def Al (lt : Nat → Nat → Bool) (p : Array Nat) (m q : Nat) : Prop := ∀ i, m - (q + 1) ≤ i → i < m → lt (g p (m - 1)) (g p i) = false ∧ lt (g p i) (g p (m - 1)) = false
theorem Al.pair (O : Ord lt) {p : Array Nat} {m q : Nat} (h : Al lt p m q) {i j : Nat} (hi : m - (q + 1) ≤ i) (hi2 : i < m) (hj : m - (q + 1) ≤ j) (hj2 : j < m) : lt (g p i) (g p j) = false :=
  O.le3 (h j hj hj2).1 (h i hi hi2).2
theorem Dn.turn (O : Ord lt) {p : Array Nat} {m q : Nat} (hm : m ≤ p.size) (hq : q + 1 ≤ m) (h : Dn lt p m) (ha : Al lt p m q) : Dn lt (kas_rev p (m - (q + 1)) m) m := fun i j h1 h2 => by
  rw [g_rev hm, g_rev hm]
  by_cases ci : m - (q + 1) ≤ i ∧ i < m
  · rw [if_pos ci]
    by_cases cj : m - (q + 1) ≤ j ∧ j < m
    · rw [if_pos cj]
      exact ha.pair O (by omega) (by omega) (by omega) (by omega)
    · omega
  · rw [if_neg ci]
    by_cases cj : m - (q + 1) ≤ j ∧ j < m
    · rw [if_pos cj]
      exact h i _ (by omega) (by omega)
    · rw [if_neg cj]
      exact h i j h1 h2
end
end Srt
end

section
set_option Elab.async false
set_option linter.all false
set_option maxRecDepth 100000
set_option maxHeartbeats 1000000
namespace L2
open PySem PySem.Spec PyProof.Rows
/-- the order of rows: by the sum, then by the numbers -/
def kl (xs ys : List Int) : Bool := HT.lexLt (xs.sum :: xs) (ys.sum :: ys)
/-- a kind of keys: what stands for a row, how the keys' kind is found, how two of them are compared -/
structure KeyKd (X : Cx) (At : Hp → V → List Int → Prop) (κ : SortKind) : Prop where
  same : ∀ {H H' : Hp} {v : V} {xs : List Int}, Same H H' → At H v xs → At H' v xs
  kind : ∀ {A : Around} {pins : List (Addr × Obj)} {σ : St} {H : Hp} {s : Shared} {us : List Value} {vs : List V} {xss : List (List Int)} {Q : SortKind → Shared → Prop} {E : Value → Shared → Prop}, Inv X pins σ H s → Vals vs us → Paired (At H) vs xss → 2 ≤ us.length →
    Q κ s → wpAny (model X.prog X.w) A (keyKind' us.toArray) Q E s
  less : ∀ {A : Around} {pins : List (Addr × Obj)} {σ : St} {H : Hp} {s : Shared} {u u' : Value} {v v' : V} {xs ys : List Int} {Q : Bool → Shared → Prop} {E : Value → Shared → Prop}, Inv X pins σ H s → A.units + 64 < cLine → RelV v u → RelV v' u' → At H v xs → At H v' ys →
    Q (kl xs ys) s → wpAny (model X.prog X.w) A (keyLt' κ u u') Q E s
theorem Paired.at {At : Hp → V → List Int → Prop} {H H' : Hp} (f : ∀ {v xs}, At H v xs → At H' v xs) : ∀ {vs : List V} {xss : List (List Int)}, Paired (At H) vs xss → Paired (At H') vs xss
  | _, _, .nil => .nil
  | _, _, .cons h t => .cons (f h) (Paired.at f t)
theorem Paired.get1 {α β : Type} {F : α → β → Prop} : ∀ {l : List α} {m : List β} {i : Nat} {a : α}, Paired F l m → l[i]? = some a → ∃ b, m[i]? = some b ∧ F a b
  | _, _, _, _, .nil, h => by simp at h
  | _, _, 0, _, .cons h _, e => by simp at e; subst e; exact ⟨_, rfl, h⟩
  | _, _, i + 1, _, .cons _ t, e => by
    obtain ⟨b, h1, h2⟩ := Paired.get1 (i := i) t (by simpa using e)
    exact ⟨b, by simpa using h1, h2⟩
/-- both lists by one order of places -/
theorem Paired.places {F : Addr → List Int → Prop} {rs : List Addr} {xss : List (List Int)} (h : Paired F rs xss) : ∀ p : List Nat, (∀ i ∈ p, i < rs.length) → Paired F (p.map fun i => rs.getD i 0) (p.map fun i => xss.getD i [])
  | [], _ => .nil
  | i :: p, hp => by
    have hi := hp i List.mem_cons_self
    refine .cons ?_ (Paired.places h p fun j hj => hp j (List.mem_cons_of_mem _ hj))
    obtain ⟨b, e, hf⟩ := Paired.get1 h (List.getElem?_eq_getElem hi)
    have a1 : rs.getD i 0 = rs[i] := by rw [List.getD_eq_getElem?_getD, List.getElem?_eq_getElem hi]; rfl
    have a2 : xss.getD i [] = b := by rw [List.getD_eq_getElem?_getD, e]; rfl
    show F (rs.getD i 0) (xss.getD i [])
    rw [a1, a2]
    exact hf
section
variable {X : Cx} {At : Hp → V → List Int → Prop} {κ : SortKind} {pins : List (Addr × Obj)} {σ : St} {H : Hp} {s : Shared} {E : Value → Shared → Prop}
/-- an object of ours that was not tracked is written and tracked from now on -/
theorem Inv.taken {D : Addr} {its : List Value} {ys : List V} {n : Nat} {h' : Heap} {t' : Nat} (I : Inv X pins σ H s) (f : FpOk X pins H D) (k : ∀ b o, b ≠ D → s.heap.get? b = some o → h'.get? b = some o)
    (hD : h'.get? D = some { cls := .type "list", data := .seq its.toArray n }) (hv : Vals ys its) (hz : ys.length ≤ sizeLine) : Inv X pins σ (upd H D (.lst ys)) { s with heap := h', toks := t' } := by
  have ne : ∀ {b o}, H b = some o → b ≠ D := fun {b o} e z => by rw [z, f.1] at e; cases e
  refine I.step (g' := s.gens) (d' := s.drawn) (ch := [D]) (fun b hb => ?_) (fun b o _ _ hc e _ => k b o (fun z => hc (by simp [z])) e) (fun b o _ _ hc e _ => ⟨o.slots, k b o (fun z => hc (by simp [z])) e⟩) (fun b o hc _ e => ?_)
    (fun b o hc e => ⟨o, k b o (fun z => hc (by simp [z])) e⟩) (fun b xs e => by rw [upd_ne (ne e)]; exact e) (fun b o u e => by rw [upd_ne (ne e)]; exact e) (fun b ps e => ⟨#[], by rw [upd_ne (ne e), e]; simp⟩) (fun m hm => ?_) (fun b u e => ?_) I.bare
  · have z : b = D := by simpa using hb
    subst z
    exact ⟨f.2.2.2.1, f.2.1, f.2.2.2.2.1, f.2.2.2.2.2⟩
  · rw [upd_ne (fun z => hc (by simp [z]))]; exact e
  · obtain ⟨o, es, ep, ho, r⟩ := hm
    exact ⟨o, es, ep, k _ o (Ne.symm f.2.1) ho, r⟩
  · by_cases z : b = D
    · subst z
      rw [upd_same] at e
      cases e
      exact ⟨hz, its, n, hv, hD⟩
    · rw [upd_ne z] at e
      refine (I.hok b u e).stay (fun c v hc q => k c v ?_ q) (fun c q => ?_) fun c xs q => ?_
      · rcases hc with y | y
        · rw [y]; exact z
        · exact ne y
      · rw [upd_ne (ne q)]; exact q
      · rw [upd_ne (ne q)]; exact q

theorem Inv.last {a : Addr} {o : Obj} (I : Inv X (pins ++ [(a, o)]) σ H s) : s.heap.get? a = some o ∧ H a = none :=
  let q := I.pin _ (List.mem_append_right _ (List.mem_append_right _ (.head _)))
  ⟨q.1, q.2.1⟩
theorem nocell (c : String) (xs : Array Value) (n : Nat) : ∀ v, (seqObj c xs n).data ≠ .cell v := fun v q => by cases q

end
end L2
end

section
set_option Elab.async false
set_option linter.all false
set_option maxRecDepth 100000
set_option maxHeartbeats 1000000
namespace L2
open PySem PySem.Spec PyProof.Rows
section
variable {prog : Program} {w : World} {A : Around} {E : Value → Shared → Prop} {s : Shared}
end

section
variable {X : Cx}
end

/-! ### sorted(e, key = f), f a def by its name -/
section
variable {X : Cx}
end
end L2
end

section
set_option Elab.async false
set_option linter.all false
set_option maxRecDepth 100000
set_option maxHeartbeats 1000000
namespace MX
open PySem PyProof.Rows
section
variable {prog : Program} {w : World} {A : Around} {E : Value → Shared → Prop} {s : Shared}
end
section
variable {prog : Program} {w : World} {A : Around} {R : Result → Shared → Prop} {I : Addr} {fp wr : List Addr} {n : Nat} {St : Nat → Heap → Prop} {f : Nat → Int} {d : Value}
theorem nm : (toString "max" ++ toString ".loop" : String) = "max.loop" := by decide
end
section
variable {prog : Program} {w : World} {A : Around} {E : Value → Shared → Prop} {s : Shared}
end
end MX
namespace L2
open PySem PySem.Spec PyProof.Rows
section
variable {X : Cx}
/-! ### a row among rows -/
end
end L2
end

section
set_option Elab.async false
set_option linter.all false
set_option maxRecDepth 100000
set_option maxHeartbeats 1000000
namespace L2
open PySem PySem.Spec PyProof.Rows
section
variable {X : Cx}
/-- what a value is, as data -/
def RdA (X : Cx) (H : Hp) (v : V) (d : PyData) : Prop := ∀ (pins : List (Addr × Obj)) (σ : St) (s : Shared) (u : Value), Inv X pins σ H s → RelV v u → ∃ as, Reads s.heap u d as
theorem rd_bl {H : Hp} (b : Bool) : RdA X H (.bl b) (.bool b) := fun _ _ _ u _ r => by cases r; exact ⟨_, .bool b⟩
theorem rd_non {H : Hp} : RdA X H .non .none := fun _ _ _ u _ r => by cases r; exact ⟨_, .none⟩
theorem rd_all {H : Hp} {pins : List (Addr × Obj)} {σ : St} {s : Shared} (I : Inv X pins σ H s) : ∀ {vs : List V} {ds : List PyData} {us : List Value}, Paired (RdA X H) vs ds → Vals vs us → ∃ as, ReadsAll s.heap us ds as
  | _, _, _, .nil, .nil => ⟨_, .nil⟩
  | _, _, _, .cons h t, .cons r rr => by
    obtain ⟨a1, q1⟩ := h _ _ _ _ I r
    obtain ⟨a2, q2⟩ := rd_all I t rr
    exact ⟨_, .cons q1 q2⟩
theorem rd_lst {H : Hp} {a : Addr} {vs : List V} {ds : List PyData} (h : H a = some (.lst vs)) (p : Paired (RdA X H) vs ds) : RdA X H (.ref a) (.list ds) := fun pins σ s u I r => by
  cases r
  obtain ⟨z, its, n, rr, hl, e⟩ := I.lstM h
  obtain ⟨as, q⟩ := rd_all I p rr
  exact ⟨_, .list e rfl rfl (by simpa using q)⟩
theorem rd_tup {H : Hp} {a : Addr} {vs : List V} {ds : List PyData} (h : H a = some (.tup vs)) (p : Paired (RdA X H) vs ds) : RdA X H (.ref a) (.tuple ds) := fun pins σ s u I r => by
  cases r
  obtain ⟨its, rr, ⟨o, ho, hc, n, hd⟩, _⟩ := I.tuple (SqT.of (K := X.K) h)
  obtain ⟨as, q⟩ := rd_all I p rr
  exact ⟨_, .tuple ho hc hd (by simpa using q)⟩
theorem op_eqD (hu : X.A.units + 70 < cLine) : OpR X (compareOp .Eq) (fun x y H Q => ∃ d d', RdA X H x d ∧ RdA X H y d' ∧ d.canLay0 = true ∧ d'.canLay0 = true ∧ d.depth ≤ 60 ∧ Q (.bl (PyData.eqv d d')) H) := by
  intro pins s σ H x y v u Q I rx ry h
  obtain ⟨d, d', h1, h2, l1, l2, hd, q⟩ := h
  obtain ⟨as, r1⟩ := h1 _ _ _ _ I rx
  obtain ⟨bs, r2⟩ := h2 _ _ _ _ I ry
  exact SeqAt.compareEq_reads r1 r2 l1 l2 (by omega) ⟨.bl _, H, I, rfl, q⟩
/-! ### rows copied -/
end
end L2
end

section
set_option Elab.async false
set_option linter.all false
set_option maxRecDepth 100000
set_option maxHeartbeats 1000000
namespace L2
open PySem PySem.Spec PyProof.Rows
/-- a block cut by a word of one's own -/
def tCut (Mid : St → Hp → Prop) (t u : TS) : TS := fun D σ H => t { D with nx := Mid } σ H ∧ ∀ σ' H', Mid σ' H' → u D σ' H'
theorem pss_cut {X : Cx} {st : Stmt} {rest : List Stmt} {t u : TS} (Mid : St → Hp → Prop) (h1 : PS X st t) (h2 : PSs X rest u) : PSs X (st :: rest) (tCut Mid t u) := by
  intro pins s σ H D I h
  refine wpAny_execs_cons (thn (h1 pins s σ H { D with nx := Mid } I h.1) fun f s1 q => ?_)
  cases f with
  | next =>
    obtain ⟨σ', H', I', q⟩ := q
    exact h2 pins s1 σ' H' D I' (h.2 σ' H' q)
  | ret v => exact q
  | brk => exact q
  | cont => exact q
theorem iteD {c : Bool} {A B : Prop} (h1 : c = true → A) (h2 : c = false → B) : if c = true then A else B := by
  cases c with
  | true => exact iteT (h1 rfl)
  | false => exact iteF (h2 rfl)
theorem same_upd {H H' : Hp} {r : Addr} (g : Same H H') (h : H r = none) (o : HO) : Same H (upd H' r o) := fun b u q => by rw [upd_ne (ne_of_none q h)]; exact g _ _ q
theorem Ls.sq {K : PySem.W.Frag} {H : Hp} {r : Addr} {ns : List Int} (h : Ls H r ns) : SqL K H r (ns.map V.int) := SqL.of h
theorem atI_ints {ns : List Int} {k : Nat} (h : k < ns.length) : atI (ns.map V.int) (k : Int) = some (.int (ns.getD k 0)) := by
  refine atI_nat ?_
  rw [List.getElem?_map, List.getElem?_eq_getElem h, List.getD_eq_getElem?_getD, List.getElem?_eq_getElem h]
  rfl
end L2
namespace Z
open PySem L2
/-- the built-ins stand as they are -/
structure Bl (mg : Str → Option Value) : Prop where
  len : mg "len" = none
  range : mg "range" = none
  list : mg "list" = none
  sum : mg "sum" = none
  any : mg "any" = none
  all : mg "all" = none
  sorted : mg "sorted" = none
  min : mg "min" = none
  max : mg "max" = none
  isinstance : mg "isinstance" = none
  int : mg "int" = none
  bool : mg "bool" = none
  tuple : mg "tuple" = none
  str : mg "str" = none
  set : mg "set" = none
def spProd (K : PySem.W.Frag) : Sp := fun vs H Q _ => ∃ (a : Addr) (ns : List Int) (B : Nat), vs = [.ref a] ∧ SqL K H a (ns.map V.int) ∧ Mir.Bd B ns ∧ (ns.length + 1) * B + 1 ≤ 134217728 ∧ Q (.int (Mir.prodL ns)) H
def spSq (K : PySem.W.Frag) : Sp := fun vs H Q _ => ∃ (a : Addr) (ns : List Int) (B : Nat), vs = [.ref a] ∧ SqL K H a (ns.map V.int) ∧ Mir.Bd B ns ∧ 2 * B ≤ 134217728 ∧ ns.length ≤ 1000 ∧ ∀ H', Same H H' → Q (.int (Mir.sqs ns)) H'
def spRow (K : PySem.W.Frag) : Sp := fun vs H Q _ => ∃ (t : Int) (a : Addr) (ns : List Int) (B : Nat), vs = [.int t, .ref a] ∧ SqL K H a (ns.map V.int) ∧ t.natAbs < 2 ^ 10 ∧ Mir.Bd B ns ∧ 2 * B ≤ 134217728 ∧ (ns.length + 1) * B + 11 ≤ 134217728 ∧ 0 < ns.length ∧ ns.length < 64 ∧
  ∀ H', Same H H' → Q (.bl (Mir.isRow t ns)) H'
def spCell (K : PySem.W.Frag) : Sp := fun vs H Q _ => ∃ (a : Addr) (ns : List Int) (k : Int), vs = [.ref a, .int k] ∧ SqL K H a (ns.map V.int) ∧ 0 ≤ k ∧ Q (.int (ns.getD k.toNat 0)) H
def spWhole : Sp := fun vs H Q _ => ∃ i : Int, vs = [.int i] ∧ Q (.bl true) H
def spNear (K : PySem.W.Frag) : Sp := fun vs H Q _ => ∃ (t : Int) (a : Addr) (ns : List Int) (p : Int) (B : Nat), vs = [.int t, .ref a, .int p] ∧ SqL K H a (ns.map V.int) ∧ t.natAbs < 2 ^ 10 ∧ Mir.Bd B ns ∧ 0 ≤ p ∧ p < ns.length ∧ ns.length ≤ 6 ∧ 7 * B + 20 ≤ 134217728 ∧
  ∀ r H', H r = none → Same H H' → Ls H' r (Mir.near t ns p.toNat) → Q (.ref r) H'

def spRootBy : Sp := fun vs H Q _ => ∃ c : Int, vs = [.int c] ∧ ∀ v H', Same H H' → Pr H' v (Mir.rootOf c) → Q v H'
def spDrawn (K : PySem.W.Frag) : Sp := fun vs H Q _ => ∃ (a : Addr) (ns : List Int), vs = [.ref a] ∧ SqL K H a (ns.map V.int) ∧
  ∀ p r H', H r = none → Same H H' → H' p = some (.tup [.int (Mir.drawnT ns), .ref r]) → Ls H' r (Mir.drawnR ns) → Q (.ref p) H'
theorem paired_app {α β : Type} {F : α → β → Prop} : ∀ {a c : List α} {b d : List β}, Paired F a b → Paired F c d → Paired F (a ++ c) (b ++ d)
  | _, _, _, _, .nil, h => h
  | _, _, _, _, .cons h t, q => .cons h (paired_app t q)

theorem cut_erase (ns : List Int) {k : Nat} (h : k < ns.length) : cutV (ns.map V.int) none (some (k : Int)) ++ cutV (ns.map V.int) (some ((k : Int) + 1)) none = (ns.eraseIdx k).map V.int := by
  have e : ((k : Int) + 1) = ((k + 1 : Nat) : Int) := by omega
  rw [e, cut_take _ (by rw [List.length_map]; omega), cut_drop, List.eraseIdx_eq_take_drop_succ, List.map_append, List.map_take, List.map_drop]
/-- a row at hand, with its bounds -/
structure Arg (B : Nat) (t : Int) (ns : List Int) : Prop where
  t : t.natAbs < 2 ^ 10
  bd : Mir.Bd B ns
  lo : 3 ≤ ns.length
  hi : ns.length ≤ 6
  z : 7 * B + 20 ≤ 134217728
theorem Arg.len1 {B : Nat} {t : Int} {ns : List Int} (h : Arg B t ns) : (ns.length + 1) * B ≤ 7 * B := Nat.mul_le_mul_right _ (by have := h.hi; omega)
theorem Arg.z2 {B : Nat} {t : Int} {ns : List Int} (h : Arg B t ns) : 2 * B ≤ 134217728 := by have := h.z; omega
theorem Arg.zr {B : Nat} {t : Int} {ns : List Int} (h : Arg B t ns) : (ns.length + 1) * B + 11 ≤ 134217728 := by have := h.z; have := h.len1; omega
theorem Arg.pos {B : Nat} {t : Int} {ns : List Int} (h : Arg B t ns) : 0 < ns.length := by have := h.lo; omega
theorem Arg.lt {B : Nat} {t : Int} {ns : List Int} (h : Arg B t ns) : ns.length < 64 := by have := h.hi; omega
theorem Arg.k {B : Nat} {t : Int} {ns : List Int} (h : Arg B t ns) : ns.length ≤ 1000 := by have := h.hi; omega
theorem Arg.near {B : Nat} {t : Int} {ns : List Int} {p : Nat} (h : Arg B t ns) (ht : t.natAbs < 2 ^ 4) (hp : p < ns.length) (hz : 7 * (5 * B + 6) + 20 ≤ 134217728) : Arg (5 * B + 6) t (Mir.near t ns p) :=
  ⟨h.t, Mir.near_bd ht h.bd hp h.hi, by rw [Mir.near_length hp]; exact h.lo, by rw [Mir.near_length hp]; exact h.hi, hz⟩
/-- what is drawn -/
theorem drawn_arg (ns : List Int) : ∃ B, Arg B (Mir.drawnT ns) (Mir.drawnR ns) ∧ B ≤ 70311 ∧ (Mir.drawnT ns).natAbs < 2 ^ 4 ∧ Mir.RowP (Mir.drawnT ns) (Mir.drawnR ns) := by
  have h : Mir.Fine 70311 (Mir.drawnR ns) := Mir.bn6 ▸ Mir.drawn_fine ns
  exact ⟨70311, ⟨Nat.lt_of_lt_of_le (Mir.drawnT_lt ns) (by decide), h.bd, h.lo, h.hi, by decide⟩, Nat.le_refl _, Mir.drawnT_lt ns, Mir.drawn_row ns⟩
def spAlike (K : PySem.W.Frag) : Sp := fun vs H Q _ => ∃ (a b : Addr) (ns ms : List Int), vs = [.ref a, .ref b] ∧ Ls H a ns ∧ SqL K H b (ms.map V.int) ∧ ms.length ≤ 1000 ∧ Q (.bl (decide (ns = ms))) H
theorem len_of_ne {m n : Nat} (c : (!decide (V.int (m : Int) = V.int (n : Int))) = false) : m = n := by
  by_cases e : V.int (m : Int) = V.int (n : Int)
  · injection e with e; omega
  · rw [decide_eq_false e] at c; cases c
theorem int_of_ne {m n : Int} (c : (!decide (V.int m = V.int n)) = false) : m = n := by
  by_cases e : V.int m = V.int n
  · injection e
  · rw [decide_eq_false e] at c; cases c
theorem same_lists : ∀ {ns ms : List Int}, ns.length = ms.length → (∀ j, j < ms.length → ns.getD j 0 = ms.getD j 0) → ns = ms
  | [], [], _, _ => rfl
  | [], _ :: _, h, _ => by cases h
  | _ :: _, [], h, _ => by cases h
  | n :: ns, m :: ms, h, q => by
    have h0 : n = m := q 0 (by simp)
    have h1 : ns = ms := same_lists (by simpa using h) fun j hj => q (j + 1) (by simpa using hj)
    rw [h0, h1]
theorem tup0 (x y : V) : atI [x, y] 0 = some x := rfl
theorem tup1 (x y : V) : atI [x, y] 1 = some y := rfl
end Z
end

section
set_option Elab.async false
set_option linter.all false
set_option maxRecDepth 100000
set_option maxHeartbeats 1000000
namespace Z
open PySem L2
theorem LL.len {H : Hp} {D : Addr} {rs : List Addr} {xss : List (List Int)} (h : LL H D rs xss) : rs.length = xss.length := h.2.length
end Z
end

section
set_option Elab.async false
set_option linter.all false
set_option maxRecDepth 100000
set_option maxHeartbeats 1000000
namespace Mir
/-! ### heads, their sizes -/
structure HeadOk (t : Int) (i : Nat) (h : List Int) : Prop where
  len : h.length = i
  lo : ∀ x ∈ h, 1 ≤ x
  hi : ∀ x ∈ h, x ≤ 6
  f : i = 0 ∨ (fac t h ≤ 6 ∧ 1 ≤ fac t h)
end Mir
namespace L2
open PySem
theorem u70 {k : Nat} {A : Around} (hr : Room k A) : A.units + 70 < cLine := by have := hr.un; omega
end L2
namespace Z
open PySem L2
/-- a new list of new rows -/
structure New (H H' : Hp) (D : Addr) (rs : List Addr) (xss : List (List Int)) : Prop where
  same : Same H H'
  ll : LL H' D rs xss
  fr : H D = none
  fs : ∀ r ∈ rs, H r = none ∧ r ≠ D
theorem New.len {H H' : Hp} {D : Addr} {rs : List Addr} {xss : List (List Int)} (h : New H H' D rs xss) : rs.length = xss.length := h.ll.2.length
theorem paired_ne {H : Hp} {D : Addr} {rs : List Addr} {xss : List (List Int)} (h : Paired (Ls H) rs xss) (o : HO) (hn : ∀ r ∈ rs, r ≠ D) : Paired (Ls (upd H D o)) rs xss := Paired.but (D := D) (fun b o' hb e => by rw [upd_ne hb]; exact e) hn h
/-- a new empty list -/
theorem New.nil {H : Hp} {D : Addr} (h : H D = none) : New H (upd H D (.lst [])) D [] [] := ⟨same_new h _, ⟨upd_same, .nil⟩, h, fun _ z => nomatch z⟩
theorem New.more {H H' H'' : Hp} {D : Addr} {rs : List Addr} {xss : List (List Int)} (h : New H H' D rs xss) (g : Same H' H'') : New H H'' D rs xss := ⟨h.same.trans g, ⟨g _ _ h.ll.1, Paired.same g h.ll.2⟩, h.fr, h.fs⟩
/-- extended by a new list of new rows -/
theorem New.ext {H H' H'' : Hp} {D E : Addr} {rs es : List Addr} {xss yss : List (List Int)} (h : New H H' D rs xss) (n : New H' H'' E es yss) : New H (upd H'' D (.lst ((rs ++ es).map V.ref))) D (rs ++ es) (xss ++ yss) := by
  have hes : ∀ r ∈ es, r ≠ D := fun r hr z => by
    have := (n.fs r hr).1
    rw [z, h.ll.1] at this; cases this
  have all : ∀ r ∈ rs ++ es, r ≠ D := fun r hr => (List.mem_append.mp hr).elim (fun z => (h.fs r z).2) (fun z => hes r z)
  refine ⟨same_upd (h.same.trans n.same) h.fr _, ⟨upd_same, paired_ne (paired_app (Paired.same n.same h.ll.2) n.ll.2) _ all⟩, h.fr, fun r hr => ⟨?_, all r hr⟩⟩
  rcases List.mem_append.mp hr with z | z
  · exact (h.fs r z).1
  · exact h.same.none (n.fs r z).1
def lenV (hd : List Int) : V → List Int
  | .int x => hd ++ [x]
  | _ => []
end Z
end

section
set_option Elab.async false
set_option linter.all false
set_option maxRecDepth 100000
set_option maxHeartbeats 1000000
namespace L2
open PySem PySem.Spec PyProof.Rows
end L2
namespace Mir
/-! ### all lists of a small size, as the law goes through them -/
structure ListOk (k : Nat) (xs : List Int) : Prop where
  len : xs.length = k
  lo : ∀ x ∈ xs, 1 ≤ x
  hi : ∀ x ∈ xs, x ≤ 40
end Mir
namespace Z
open PySem L2
end Z
end

section
set_option Elab.async false
set_option linter.all false
set_option maxRecDepth 100000
set_option maxHeartbeats 1000000
namespace Mir
def walkP (t : Int) (row : List Int) (ps : List Int) : List Int := ps.foldl (fun r p => near t r p.toNat) row
/-- a way that can be gone: the rows on it, place by place -/
structure Gone (t : Int) (B : Nat) (row ps : List Int) : Prop where
  isr : ∀ i, i ≤ ps.length → RowP t (walkP t row (ps.take i))
  len : ∀ i, i ≤ ps.length → (walkP t row (ps.take i)).length = row.length
  bd : ∀ i, i ≤ ps.length → Bd B (walkP t row (ps.take i))
  pl : ∀ p ∈ ps, 0 ≤ p ∧ p < (row.length : Int)
end Mir
namespace Z
open PySem L2
theorem Arg.of {B : Nat} {t : Int} {ns ms : List Int} (h : Arg B t ns) (hl : ms.length = ns.length) (hb : Mir.Bd B ms) : Arg B t ms := ⟨h.t, hb, by rw [hl]; exact h.lo, by rw [hl]; exact h.hi, h.z⟩
end Z
end

section
set_option Elab.async false
set_option linter.all false
set_option maxRecDepth 100000
set_option maxHeartbeats 1000000
/-! EXCEPTIONS of own classes over the hand layer: raise, what passes a def's frame, try with one handler. -/
namespace L2
open PySem PySem.Spec PyProof.Rows

/-- the chain of ValueError -/
abbrev veM : List Value := [.type "ValueError", .type "Exception", .type "BaseException", .type "object"]
/-- an own class of refusals at C -/
structure XC (K : PySem.W.Frag) (C : Addr) : Prop where
  exc : PySem.W.excIn K C veM "ValueError.__new__" = true
  ga : PySem.W.findIn K (.ref C) "__getattribute__" = some (some (.builtin "BaseException.__getattribute__"))
  gat : PySem.W.findIn K (.ref C) "__getattr__" = some none
  cl : PySem.W.findIn K (.ref C) "__class__" = some (some (.builtin "object.__class__"))
  bx : PySem.W.mroIn K C (.type "BaseException") = some true
  ob : PySem.W.mroIn K C (.type "object") = some true

/-- its object -/
def XObj (h : Heap) (C : Addr) : Prop := ∃ tl N nm q bs hd sn sub ab col dd k0 k1 k2 k3 k5 mN, h.get? C = some (excClassObj nm q C N bs tl hd sn sub ab col dd k0 k1 k2 k3 k5 "ValueError.__new__") ∧ h.Ns N mN ∧ mN "__init__" = none ∧ OwnTail h veM tl
theorem XC.obj {K : PySem.W.Frag} {C : Addr} {h : Heap} (c : XC K C) (X : K.In h) : XObj h C := by
  have q := c.exc
  unfold PySem.W.excIn at q
  split at q
  case h_2 => cases q
  case h_1 dd cd sl ho =>
    split at q
    case h_2 => cases q
    case h_1 C' tl k0 k1 k2 k3 n k5 hm hs =>
      simp only [Bool.and_eq_true, beq_iff_eq, Bool.not_eq_true'] at q
      obtain ⟨⟨⟨⟨⟨c1, c2⟩, c3⟩, c4⟩, c5⟩, c6⟩ := q
      subst c1 c2
      cases cd with
      | mk nm bs mro ns qn hd sn sub ab col del =>
        simp only at hm c3 c5 c6
        subst hm c3
        cases sl with
        | mk l =>
          simp only at hs
          subst hs
          exact ⟨tl, ns, nm, qn, bs, hd, sn, sub, ab, col, dd, k0, k1, k2, k3, k5, _, X _ _ ho, .of_isNs (PySem.W.isNs_of_in X c5), PySem.W.nsMap_none_of_in X c5 c6, PySem.W.tail_of_in X c4⟩

/-- a tracked thing stands -/
theorem ObjOk.th {P : Program} {w : World} {H : Hp} {h : Heap} {a : Addr} {o : HO} (x : ObjOk P w H h a o) : ∃ u, h.get? a = some u := by
  cases o with
  | lst xs => obtain ⟨_, _, _, _, e⟩ := x; exact ⟨_, e⟩
  | tup xs => obtain ⟨_, _, _, _, e, _⟩ := x; exact ⟨_, e⟩
  | dK kvs => obtain ⟨_, _, _, _, _, _, _, e, _⟩ := x; exact ⟨_, e⟩
  | dT kvs => obtain ⟨_, _, _, _, _, _, _, e, _⟩ := x; exact ⟨_, e⟩
  | set S n => obtain ⟨_, _, _, _, e, _⟩ := x; exact ⟨_, e⟩
  | ins C dx fs => obtain ⟨_, _, _, e, _⟩ := x; exact ⟨_, e⟩
  | own y => exact x
  | xd fs => obtain ⟨_, ⟨_, _, _, e, _⟩, _⟩ := x; exact ⟨_, e⟩
  | rng lo hi => obtain ⟨_, _, _, e⟩ := x; exact ⟨_, e⟩
  | frz ob u => exact ⟨_, x.1⟩
  | tbl ps => exact ⟨_, x⟩
  | met f y => exact ⟨_, x⟩
  | ext φ => exact x.2.1

/-- an exception of an own class behind a call that raised: B is the heap at the raise without the frames -/
def CXF (P : Program) (w : World) (K : PySem.W.Frag) : CXT := fun outer H s E e s' =>
  ∃ (x C t : Addr) (B : Heap) (H' : Hp), e = .ref x ∧ XC K C ∧ s'.os = s.os ∧ AllBare s'.gens ∧ Un (frs outer) [] H H' s.heap s'.heap ∧ HOk P w H' s'.heap ∧ Heap.FlyingW B outer x (.ref C) (.ref t) s'.heap ∧
    (∀ b o, s.heap.get? b = some o → H b = none → b ∉ frs outer → B.get? b = some o) ∧ (∀ b o, H' b ≠ none → s'.heap.get? b = some o → B.get? b = some o) ∧ (∀ b o, s.heap.get? b = some o → b ∉ frs outer → ∃ o', B.get? b = some o') ∧ E (.ref C) none H'

/-- the body of a def, its frame on top -/
structure Top1 (X : Cx) : Prop where
  stk : X.stack = X.env :: X.outer
  fr : X.env.frame = some X.env.locals
  ex : X.ex = []

section
variable {X : Cx} {pins : List (Addr × Obj)} {σ : St} {H : Hp} {s : Shared} {E : XK} {M : Model} {E' : Value → Shared → Prop}

theorem Inv.old_stk (I : Inv X pins σ H s) {b : Addr} {o : Obj} (e : X.s₀.heap.get? b = some o) (hb : b ∉ frs X.outer) : b ∉ frs X.stack := fun z => by
  rcases List.mem_cons.mp (I.stkSub b z) with q | q
  · exact absurd (Nat.lt_of_lt_of_le (Heap.lt_size e) I.ok.above) (by rw [q]; exact Nat.lt_irrefl _)
  · exact hb q
theorem Inv.stk_none (I : Inv X pins σ H s) {b : Addr} {u : HO} (e : H b = some u) : b ∉ frs X.stack := fun z => by
  rw [I.stkFree b z] at e
  cases e
theorem Inv.fs_data (I : Inv X pins σ H s) {b : Addr} {o : Obj} (hb : b ∈ frs X.outer) (e : s.heap.get? b = some o) : ∀ vs, o.data ≠ .fields vs := by
  obtain ⟨_, u, hu, hd⟩ := I.funs.mem hb
  rw [e] at hu
  cases hu
  exact hd

/-- a new exception leaves the frame -/
theorem leave_made {h' : Heap} {x C : Addr} {vs : List Value} (T : Top1 X) (I : Inv X pins σ H s) (hm : Heap.MadeExcOf s.heap h' x (.ref C) vs) (hC : XC X.K C) (hE : E (.ref C) none H) :
    wpAny M X.A (leaving X.env (.ref x)) (fun _ s2 => CXF X.prog X.w X.K X.outer X.H₀ X.s₀ E (.ref x) s2) E' { s with heap := h' } := by
  have nex : ∀ b : Addr, b ∉ X.ex := fun b => by rw [T.ex]; exact List.not_mem_nil
  have fF : s.heap.FunFrames (PySem.W.hideAll s.heap (frs X.stack)) X.stack := PySem.W.funFrames_hide I.stack fun env he a ha => List.mem_filterMap.mpr ⟨env, he, ha⟩
  have fr0 : X.A.frames = some (X.env :: X.outer) := by rw [← T.stk]; exact I.ok.frames
  refine wpAny_leaves_madeW (base := PySem.W.hideAll s.heap (frs X.stack)) fr0 T.fr (fun b o q => PySem.W.of_hideAll _ q) (by rw [← T.stk]; exact fF) hm fun h2 t f1 f2 f3 f4 => ?_
  have kB : ∀ b o, s.heap.get? b = some o → b ∉ frs X.stack → h2.get? b = some o := fun b o e n => f1.1 b o (PySem.W.hideAll_get _ e n)
  have slot : ∀ b o, b ∈ frs X.outer → s.heap.get? b = some o → ∃ sl, h2.get? b = some { o with slots := sl } := fun b o hb e => f4 b o (hm.keeps b o e) (I.fs_data hb e)
  refine ⟨x, C, t, _, H, rfl, hC, I.os, I.bare, ⟨fun b o e n hb _ => ?_, fun b o e n hb _ => ?_, fun b o e n _ => I.base.free b o e n (nex b), fun b o e _ => ?_, I.base.tups, I.base.frzs, I.base.tbls⟩, fun b u e => ?_, f1, fun b o e n hb => ?_, fun b o hn e => ?_, fun b o e hb => ?_, hE⟩
  · exact kB b o (I.base.keep b o e n hb (nex b)) (I.old_stk e hb)
  · obtain ⟨sl, e1⟩ := I.base.slot b o e n hb (nex b)
    obtain ⟨sl2, e2⟩ := slot b _ hb e1
    exact ⟨sl2, e2⟩
  · obtain ⟨o1, e1⟩ := I.base.there b o e (nex b)
    by_cases hb : b ∈ frs X.outer
    · obtain ⟨sl, e2⟩ := slot b o1 hb e1
      exact ⟨_, e2⟩
    · exact ⟨o1, kB b o1 e1 (I.old_stk e hb)⟩
  · exact (I.hok b u e).stay (fun c v hc q => kB c v q (hc.elim (fun z => I.stk_none (z ▸ e)) fun z => I.stk_none z)) (fun _ q => q) fun _ _ q => q
  · exact PySem.W.hideAll_get _ (I.base.keep b o e n hb (nex b)) (I.old_stk e hb)
  · cases q : H b with
    | none => exact absurd q hn
    | some u =>
      obtain ⟨o1, e1⟩ := (I.hok b u q).th
      have e2 := kB b o1 e1 (I.stk_none q)
      rw [e] at e2
      cases e2
      exact PySem.W.hideAll_get _ e1 (I.stk_none q)
  · obtain ⟨o1, e1⟩ := I.base.there b o e (nex b)
    exact ⟨o1, PySem.W.hideAll_get _ e1 (I.old_stk e hb)⟩

/-- an exception of a callee leaves this frame too -/
theorem leave_on {e : Value} {s' : Shared} (T : Top1 X) (I : Inv X pins σ H s) (c : CXF X.prog X.w X.K X.stack H s E e s') :
    wpAny M X.A (leaving X.env e) (fun _ s2 => CXF X.prog X.w X.K X.outer X.H₀ X.s₀ E e s2) E' s' := by
  have nex : ∀ b : Addr, b ∉ X.ex := fun b => by rw [T.ex]; exact List.not_mem_nil
  obtain ⟨x, C, t, B, H', rfl, hC, os, bare, un, hok, fl, b1, b2, b3, hE⟩ := c
  have I' : Inv X pins σ H' s' := I.call' os un hok bare fun _ z => absurd z List.not_mem_nil
  have fr0 : X.A.frames = some (X.env :: X.outer) := by rw [← T.stk]; exact I.ok.frames
  refine wpAny_leaves_onW fr0 T.fr (by rw [← T.stk]; exact fl) fun h2 g1 g2 => ?_
  have slot : ∀ b o, b ∈ frs X.outer → s'.heap.get? b = some o → ∃ sl, h2.get? b = some { o with slots := sl } := fun b o hb e => g2 b o e (I'.fs_data hb e)
  refine ⟨x, C, t, B, H', rfl, hC, os.trans I.os, bare, ⟨fun b o e n hb _ => ?_, fun b o e n hb _ => ?_, fun b o e n _ => I'.base.free b o e n (nex b), fun b o e _ => ?_, I'.base.tups, I'.base.frzs, I'.base.tbls⟩, fun b u e => ?_, g1, fun b o e n hb => ?_, fun b o hn e => ?_, fun b o e hb => ?_, hE⟩
  · exact g1.1 b o (b1 b o (I.base.keep b o e n hb (nex b)) (I.base.free b o e n (nex b)) (I.old_stk e hb))
  · obtain ⟨sl, e1⟩ := I'.base.slot b o e n hb (nex b)
    obtain ⟨sl2, e2⟩ := slot b _ hb e1
    exact ⟨sl2, e2⟩
  · by_cases hb : b ∈ frs X.outer
    · obtain ⟨o1, e1⟩ := I'.base.there b o e (nex b)
      obtain ⟨sl, e2⟩ := slot b o1 hb e1
      exact ⟨_, e2⟩
    · obtain ⟨o1, e1⟩ := I.base.there b o e (nex b)
      obtain ⟨o2, e2⟩ := b3 b o1 e1 (I.old_stk e hb)
      exact ⟨o2, g1.1 b o2 e2⟩
  · exact (hok b u e).stay (fun c v hc q => g1.1 c v (b2 c v (hc.elim (fun z => by rw [z, e]; exact nofun) fun z => by rw [z]; exact nofun) q)) (fun _ q => q) fun _ _ q => q
  · exact b1 b o (I.base.keep b o e n hb (nex b)) (I.base.free b o e n (nex b)) (I.old_stk e hb)
  · cases q : H' b with
    | none => exact absurd q hn
    | some u =>
      obtain ⟨o1, e1⟩ := (hok b u q).th
      have e2 := b2 b o1 hn e1
      have e3 := g1.1 b o1 e2
      rw [e] at e3
      cases e3
      exact e2
  · obtain ⟨o1, e1⟩ := I.base.there b o e (nex b)
    exact b3 b o1 e1 (I.old_stk e hb)
end
end L2
end

section
set_option Elab.async false
set_option linter.all false
set_option maxRecDepth 100000
set_option maxHeartbeats 1000000
namespace L2
open PySem PySem.Spec PyProof.Rows

/-! ### defs that may refuse -/
section
variable {P : Program} {w : World} {K : PySem.W.Frag} {mg : Str → Option Value} {base : Heap} {N : List Str} {qual : Str} {scope : Scope} {f : Addr} {cd : Value} {A : Around} {outer : List Env} {s : Shared} {H : Hp} {E : XK}
theorem top1_of : Top1 (cxOf (CXF P w K) P w K mg base N qual scope f cd A outer s H E) := ⟨rfl, rfl, rfl⟩
theorem passF : Passes (CXF P w K) (cxOf (CXF P w K) P w K mg base N qual scope f cd A outer s H E) E := fun pins σ H1 s1 e s' I c => leave_on top1_of I c
/-- the def's rule -/
theorem Fun.okX {x : Str} {st : Stmt} {fd : FuncData} {ps : List Str} {k : Nat} {sp : Sp} (F : Fun K x qual st f fd) (S : FnScope N ps (defScope st)) (len : ∀ vs H Q E, sp vs H Q E → vs.length = ps.length)
    (hbody : ∀ (cdv : Value) (A : Around) (outer : List Env) (s : Shared) (H : Hp) (vs : List V) (Q : VK) (E : XK), Room k (A.deeper (envOfC qual (defScope st) s.heap.objs.size f cdv)) → sp vs H Q E →
      ∃ t, PSs (cxOf (CXF P w K) P w K mg base N qual (defScope st) f cdv A outer s H E) (defBody st) t ∧ t { nx := fun _ H' => Q .non H', rt := Q } (start N vs) H) : FnOk P w K mg base (CXF P w K) (k + 1) f fd ps sp := by
  obtain ⟨oc, od, kV, doc, pm, an, cdv, ct, osl, rfl, lk, hcd⟩ := F.ex
  exact fn_of lk hcd S len fun A outer s H vs Q E hr hsp => hbody cdv A outer s H vs Q E hr hsp
end
/-- a def that may refuse, by its name -/
structure DfX (P : Program) (w : World) (K : PySem.W.Frag) (mg : Str → Option Value) (base : Heap) (k : Nat) (x : Str) (ps : List Str) (sp : Sp) : Prop where
  ex : ∃ (f : Addr) (fd : FuncData), FnOk P w K mg base (CXF P w K) k f fd ps sp ∧ Binds K fd ps [] ∧ PySem.W.keepIn K (.ref f) = true ∧ mg x = some (.ref f)
theorem dfx_mk {P : Program} {w : World} {K : PySem.W.Frag} {mg : Str → Option Value} {base : Heap} {k : Nat} {x : Str} {ps : List Str} {sp : Sp} {f : Addr} {fd : FuncData} (F : FnOk P w K mg base (CXF P w K) k f fd ps sp) (b : Binds K fd ps []) (kp : PySem.W.keepIn K (.ref f) = true) (m : mg x = some (.ref f)) :
    DfX P w K mg base k x ps sp := ⟨f, fd, F, b, kp, m⟩
section
variable {X : Cx}
/-- its call, where the body lets it through -/
theorem pe_dfX {n k : Nat} {x : Str} {ps : List Str} {sp : Sp} {E : XK} {p pos : Pos} {e : Expr} {es : List Expr} {t : TA} (D : DfX X.prog X.w X.K X.mg X.base k x ps sp) (hr : Room n X.A) (hk : k ≤ n) (hp : Passes (CXF X.prog X.w X.K) X E) (hg : Gl X x) (ha : PA X (e :: es) t)
    (hdb : (x == ("__debug__" : Str)) = false := by decide) (he : starEach (e :: es) X.env = (false, eval e X.env) :: starEach es X.env := by rfl) (hpl : (backTo pos (starEach es X.env)).any (·.1) = false := by rfl) :
    PE X (.Call (.Name x p) (e :: es) [] pos) (tCall sp [] E t) := by
  obtain ⟨f, fd, F, b, kp, m⟩ := D.ex
  exact pe_call F (hr.mono hk) hg m kp b .nil hp ha hdb he hpl

/-! ### raise C(..) -/
def tRaise (C : Addr) (E : XK) (t : TA) : TS := fun _ σ H => t σ H fun vs H1 => vs.length ≤ 1000 ∧ E (.ref C) none H1
/-- in a body that has a frame: what is wanted of a new exception -/
def Throws (X : Cx) (E : XK) : Prop := ∀ (pins : List (Addr × Obj)) (σ : St) (H : Hp) (s : Shared) (h' : Heap) (x C : Addr) (vs : List Value), Inv X pins σ H s → Heap.MadeExcOf s.heap h' x (.ref C) vs → XC X.K C → E (.ref C) none H → X.xe (.ref x) { s with heap := h' }
theorem ps_raise {C : Addr} {E : XK} {x : Str} {np cpos pos : Pos} {e : Expr} {es : List Expr} {t : TA} (hT : Throws X E) (hC : XC X.K C) (hg : Gl X x) (hm : X.mg x = some (.ref C)) (hh : X.A.handled = none) (ha : PA X (e :: es) t)
    (hdb : (x == ("__debug__" : Str)) = false := by decide) (he : starEach (e :: es) X.env = (false, eval e X.env) :: starEach es X.env := by rfl) (hpl : (backTo cpos (starEach es X.env)).any (·.1) = false := by rfl) :
    PS X (.Raise (some (.Call (.Name x np) (e :: es) [] cpos)) none pos) (tRaise C E t) := by
  intro pins s σ H D I h
  obtain ⟨tl, N0, nm, q, bs, hd, sn, sub, ab, col, dd, k0, k1, k2, k3, k5, mN, hO, hN, hni, TL⟩ := hC.obj I.mod.kin
  refine wpAny_Raise_call_subU (C := C) (nm := nm) (q := q) (N := N0) (bs := bs) (bm := tl) (hdct := hd) (sn := sn) (sub := sub) (ab := ab) (col := col) (dd := dd) (k0 := k0) (k1 := k1) (k2 := k2) (k3 := k3) (k5 := k5)
    PySem.F.excBase_ValueError (bmB := veM) (by decide +kernel) PySem.F.excBase_ValueError (mN := mN) (TL.hasType (by decide +kernel)) hh (by rw [he]; show (false || (backTo cpos (starEach es X.env)).any (·.1)) = false; rw [hpl]; rfl) hni (ld_glob I hg hm ⟨rfl, ?_⟩ hdb)
  have hA := ha cpos pins s σ H _ I h
  rw [he] at hA ⊢
  refine Calls.evalArgs_plain (thn hA fun us s1 ⟨vs, H1, I1, r, hl, hE⟩ => ?_)
  exact ⟨rfl, by rw [← r.length]; exact Nat.le_of_lt (small1000 hl), I1.bk _ _ hO, hN.keeps I1.bk, TL.keeps I1.bk, fun h' x0 hx => hT pins σ H1 s1 h' x0 C us I1 hx hC hE⟩
end
section
variable {P : Program} {w : World} {K : PySem.W.Frag} {mg : Str → Option Value} {base : Heap} {N : List Str} {qual : Str} {scope : Scope} {f : Addr} {cd : Value} {A : Around} {outer : List Env} {s : Shared} {H : Hp} {E : XK}
theorem throwF : Throws (cxOf (CXF P w K) P w K mg base N qual scope f cd A outer s H E) E := fun pins σ H1 s1 h' x C vs I hm hC hE => leave_made top1_of I hm hC hE
end
end L2
end

section
set_option Elab.async false
set_option linter.all false
set_option maxRecDepth 100000
set_option maxHeartbeats 1000000
namespace L2
open PySem PySem.Spec PyProof.Rows PySem.W
/-! ### an exception's class, by what is asked of it -/
section
variable {prog : Program} {w : World} {A : Around} {E : Value → Shared → Prop} {h : Heap} {g : Array GenState} {d : Drawn} {t : Nat} {os : OsState} {K : PySem.W.Frag} {a C : Addr} {o : Obj}
theorem xc_get {R : Result → Shared → Prop} {tp : Value} (hC : XC K C) (X : K.In h) (hx : h.get? a = some o) (hc : o.cls = .ref C) (hq : R (.ok (.ret (.ref C))) ⟨h, g, d, t, os⟩) :
    codeAny (model prog w) A (.call (.builtin "getset_descriptor.__get__") ⟨[.builtin "object.__class__", .ref a, tp], []⟩) R ⟨h, g, d, t, os⟩ := by
  have K0 : Looks (model prog w) h (typeOf (.ref a)) (.ref C) := hc ▸ (Looks.ld hx).andThen .now
  have K1 : Looks (model prog w) h (isSubtype (.ref C) (.type "object")) true := looks_mroIn X hC.ob
  refine codeAny_call_builtin KF.slot_gs.plain KF.entry_gs ?_
  refine KF.slot_gs.check _ _ _ _ _ _ _ _ KF.type_class (KF.args_gs _ _ _) ?_
  unfold Builtin.«getset_descriptor.__get__»
  unfold Builtin.Getset_descriptor.descrGet
  rw [dga_obj]
  refine wpAny_bind (wpAny_pure ?_)
  unfold Builtin.Getset_descriptor.descrGetter Builtin.Getset_descriptor.descrCheckInstance
  unfold Builtin.Getset_descriptor.descrNameAndClass isInstance
  simp only [KF.owner_class]
  repeat lk
  have qt := Code.quiet_builtin ⟨[Value.ref a], []⟩ (id := "object.__class__") (by decide +kernel)
  refine ⟨qt, codeAny_builtin KF.entry_class ?_⟩
  unfold Builtin.«object.__class__»
  unfold shownTypeOf
  repeat lk
  exact hq
theorem xc_entry {tk : Tok} {Q : Fin → Shared → Prop} (hC : XC K C) (X : K.In h) (hx : h.get? a = some o) (hc : o.cls = .ref C) (hq : Q (.done (.ret (.ref C))) ⟨h, g, d, t, os⟩) :
    wpAny (model prog w) A (Builtin.«object.__getattribute__» ⟨[.ref a, .str "__class__" tk], []⟩) Q E ⟨h, g, d, t, os⟩ := by
  have K0 : Looks (model prog w) h (typeOf (.ref a)) (.ref C) := hc ▸ (Looks.ld hx).andThen .now
  have K1 : Looks (model prog w) h (typeLookup (.ref C) "__class__") (some (.builtin "object.__class__")) := looks_findIn X hC.cl
  have f5 := KF.type_class
  have f6 := PySem.F.slot_gs_get.lookup
  have f7 := PySem.F.slot_gs_set.lookup
  repeat (any_goals (first | assumption | with_reducible refine Looks.at (by assumption) ?_ | wp_step))
  refine xc_get hC X hx hc ?_
  repeat (any_goals (first | assumption | wp_step))
theorem xc_check {M : Model} {nv : Value} {Q : Unit → Shared → Prop} (hC : XC K C) (X : K.In h) (hx : h.get? a = some o) (hc : o.cls = .ref C) (hq : Q () ⟨h, g, d, t, os⟩) :
    wpAny M A (checkBuiltinCall "BaseException.__getattribute__" ⟨[.ref a, nv], []⟩) Q E ⟨h, g, d, t, os⟩ := by
  have kd : builtinKind "BaseException.__getattribute__" = some .slot := by decide +kernel
  have sp : splitId "BaseException.__getattribute__" = some ("BaseException", "__getattribute__") := by decide +kernel
  have K0 : Looks M h (typeOf (.ref a)) (.ref C) := hc ▸ (Looks.ld hx).andThen .now
  have K1 : Looks M h (isSubtype (.ref C) (.type "BaseException")) true := looks_mroIn X hC.bx
  have K2 : Looks M h (isInstance (.ref a) (.type "BaseException")) true := K0.andThen K1
  have ao := PySem.F.args_bexc_ga (.ref a) nv
  simp only [checkBuiltinCall, kd, sp]
  refine wpAny_bind (K2.at ?_)
  repeat (first | wp_step)
  exact hq
theorem xc_call {tk : Tok} {R : Result → Shared → Prop} (hC : XC K C) (X : K.In h) (hx : h.get? a = some o) (hc : o.cls = .ref C) (hq : R (.ok (.ret (.ref C))) ⟨h, g, d, t, os⟩) :
    codeAny (model prog w) A (.call (.builtin "BaseException.__getattribute__") ⟨[.ref a, .str "__class__" tk], []⟩) R ⟨h, g, d, t, os⟩ :=
  codeAny_call_builtin PySem.F.excAttr_ValueError.ga.plain PySem.F.entry_bexc_ga (xc_check hC X hx hc (xc_entry hC X hx hc hq))
theorem xc_by {tk : Tok} {fill expr : Bool} {Q : Value → Shared → Prop} (hC : XC K C) (X : K.In h) (hx : h.get? a = some o) (hc : o.cls = .ref C) (hq : Q (.ref C) ⟨h, g, d, t, os⟩) :
    wpAny (model prog w) A (getAttrBy (.ref a) (.str "__class__" tk) fill expr) Q E ⟨h, g, d, t, os⟩ := by
  have K0 : Looks (model prog w) h (typeOf (.ref a)) (.ref C) := hc ▸ (Looks.ld hx).andThen .now
  have K1 : Looks (model prog w) h (typeLookup (.ref C) "__getattribute__") (some (.builtin "BaseException.__getattribute__")) := looks_findIn X hC.ga
  have K2 : Looks (model prog w) h (typeLookup (.ref C) "__getattr__") none := looks_findIn X hC.gat
  have bd := PySem.F.excAttr_ValueError.ga.bind (.ref a)
  have n0 : (expr && onTheHeap (Value.builtin "BaseException.__getattribute__")) = false := by cases expr <;> rfl
  have n2 : (Value.builtin "BaseException.__getattribute__" == Value.builtin "object.__getattribute__") = false := by decide +kernel
  have n1 : (onTheHeap (Value.ref C) && Value.builtin "BaseException.__getattribute__" == Value.builtin "object.__getattribute__") = false := by rw [n2]; exact Bool.and_false _
  repeat (any_goals (first | assumption | with_reducible refine Looks.at (by assumption) ?_ | wp_step))
  refine xc_call hC X hx hc ?_
  repeat (any_goals (first | assumption | wp_step))
theorem xc_attr {Q : Option Value → Shared → Prop} (hC : XC K C) (X : K.In h) (hx : h.get? a = some o) (hc : o.cls = .ref C) (hq : Q (some (.ref C)) ⟨h, g, d, t + 1, os⟩) :
    wpAny (model prog w) A (getAttr? (.ref a) "__class__") Q E ⟨h, g, d, t, os⟩ := by
  unfold getAttr? getAttrBy?
  refine wpAny_bind (wpAny_mkText (wpAny_bind (wpAny_attempt ?_)))
  exact xc_by hC X hx hc (wpAny_pure hq)
end
end L2
end

section
set_option Elab.async false
set_option linter.all false
set_option maxRecDepth 100000
set_option maxHeartbeats 1000000
namespace L2
open PySem PySem.Spec PyProof.Rows PySem.W
/-- a caught exception, as a tracked thing -/
def exO (x C : Addr) : HO := .ext fun h => ∃ o, h.get? x = some o ∧ o.cls = .ref C
theorem exO_ok {P : Program} {w : World} {H : Hp} {h : Heap} {x C : Addr} {o : Obj} (e : h.get? x = some o) (c : o.cls = .ref C) : ObjOk P w H h x (exO x C) :=
  ⟨⟨o, e, c⟩, ⟨o, e⟩, fun h1 h2 ⟨o1, e1, c1⟩ k => ⟨o1, k o1 e1, c1⟩⟩

theorem xc_isType {K : PySem.W.Frag} {C : Addr} {M : Model} {h : Heap} (hC : XC K C) (X : K.In h) : Looks M h (isType (.ref C)) true := by
  obtain ⟨tl, N, nm, q, bs, hd, sn, sub, ab, col, dd, k0, k1, k2, k3, k5, mN, ho, _⟩ := hC.obj X
  intro A' Q' E' s' k z
  unfold isType loadHead
  refine wpAny_bind ?_
  refine wpAny_loadPart (k _ _ ho) ?_
  exact wpAny_pure z
theorem xc_kit {K : PySem.W.Frag} {x C : Addr} (hC : XC K C) : KitX K (.ref x) (.ref C) (fun h => ∃ o, h.get? x = some o ∧ o.cls = .ref C) where
  ty := fun M h _ ⟨o, e, c⟩ => c ▸ (Looks.ld e).andThen .now
  it := fun M h X _ => xc_isType hC X
  ne := fun h tp dd' its n sl X htp => by
    obtain ⟨tl, N, nm, q, bs, hd, sn, sub, ab, col, dd, k0, k1, k2, k3, k5, mN, ho, _⟩ := hC.obj X
    refine Bool.eq_false_iff.mpr fun z => ?_
    have e : C = tp := Value.ref.inj (beq_iff_eq.mp z)
    rw [e, htp] at ho
    have d := congrArg Obj.data (Option.some.inj ho)
    cases d
  ca := fun {prog w A E Q s} X ⟨o, e, c⟩ k => by
    obtain ⟨hh, g, d, t, os⟩ := s
    exact xc_attr hC X e c k

section
variable {X : Cx}
/-- isinstance(e, C) of a caught exception -/
theorem call_isx : CallR X (.builtin "isinstance") (fun xs H Q => ∃ x C v cv b, xs = [.ref x, v] ∧ (∀ u, RelV v u → u = cv) ∧ H x = some (exO x C) ∧ XC X.K C ∧ kitOne X.K (.ref C) cv = some b ∧ Q (.bl b) H) := by
  intro pins s σ H xs us Q I r h
  obtain ⟨x, C, v, cv, b, rfl, hv, hx, hC, hk, q⟩ := h
  cases r with
  | cons r0 r1 =>
    cases r1 with
    | cons r2 r3 =>
      cases r3
      cases r0
      cases hv _ r2
      obtain ⟨⟨o, e, c⟩, _, _⟩ := I.hok x _ hx
      exact kia_one (xc_kit hC) I.kIn ⟨o, e, c⟩ hk (fun z => nomatch z) fun tk => ⟨.bl b, H, I.tok tk, rfl, q⟩
end

/-! ### the name of the exception goes -/
section
variable {X : Cx} {pins : List (Addr × Obj)} {σ : St} {H : Hp} {s : Shared} {M : Model} {A : Around} {E : Value → Shared → Prop}
theorem Inv.gone {i : Nat} {x : Str} {m : Str → Option Value} {v : Option Value} {h' : Heap} {t' : Nat} (I : Inv X pins σ H s) (hN : X.N.Nodup) (hi : X.N[i]? = some x) (hn : ∀ (j : Nat) (y : Str) (v : V), X.N[j]? = some y → σ[j]? = some (some v) → Vis X.env.scope y → ∃ u, RelV v u ∧ Look X.env s.heap m y u)
    (n' : h'.Ns X.env.locals (fun y => if y = x then v else m y)) (hs : Heap.SameBut X.env.locals s.heap h') : Inv X pins (σ.set i none) H { s with heap := h', toks := t' } := by
  have old : ∀ b o, X.s₀.heap.get? b = some o → b ≠ X.env.locals := fun b o e => Nat.ne_of_lt (Nat.lt_of_lt_of_le (Heap.lt_size e) I.ok.above)
  have trkd : ∀ b u, H b = some u → b ≠ X.env.locals := fun b u e z => by rw [z, I.free] at e; cases e
  refine ⟨I.ok, I.os, I.bare, ⟨fun b o e n hb hx => ?_, fun b o e n hb hx => ?_, I.base.free, fun b o e hx => ?_, I.base.tups, I.base.frzs, I.base.tbls⟩, ⟨_, n', fun j y v' e1 e2 e3 => ?_⟩, fun y c e => ?_, I.free, I.freeC, fun p hp => ?_, fun b u e => ?_, by simpa using I.len⟩
  · exact (hs.2 b (old b o e)).trans (I.base.keep b o e n hb hx)
  · obtain ⟨sl, e1⟩ := I.base.slot b o e n hb hx
    exact ⟨sl, (hs.2 b (old b o e)).trans e1⟩
  · obtain ⟨o1, e1⟩ := I.base.there b o e hx
    exact ⟨o1, (hs.2 b (old b o e)).trans e1⟩
  · have hj : j ≠ i := fun z => by
      subst z
      rw [List.getElem?_set] at e2
      split at e2
      · split at e2 <;> cases e2
      · exact absurd rfl ‹_›
    rw [List.getElem?_set_ne (Ne.symm hj)] at e2
    obtain ⟨u, r, q⟩ := hn j y v' e1 e2 e3
    refine ⟨u, r, ?_⟩
    rcases q with ⟨k, e⟩ | ⟨k, c, e, z⟩
    · have ny : y ≠ x := fun z => hj (nodup_ix hN e1 (z ▸ hi))
      exact .inl ⟨k, show (if y = x then v else m y) = some u by rw [if_neg ny]; exact e⟩
    · exact .inr ⟨k, c, e, z.sameBut hs (I.cne y c e)⟩
  · obtain ⟨w', z⟩ := I.cell y c e
    exact ⟨w', z.sameBut hs (I.cne y c e)⟩
  · obtain ⟨e, n, ne, nf, d⟩ := I.pin p hp
    exact ⟨(hs.2 p.1 ne).trans e, n, ne, nf, d⟩
  · exact (I.hok b u e).stay (fun c q hc z => (hs.2 c (hc.elim (fun y => y ▸ trkd b u e) fun y => trkd c _ y)).trans z) (fun _ q => q) fun _ _ q => q
theorem name_goes {i : Nat} {x : Str} {pos : Pos} {Q : Unit → Shared → Prop} (I : Inv X pins σ H s) (hN : X.N.Nodup) (hi : X.N[i]? = some x) (hk : X.env.scope.names.lookup x = some .local)
    (h : ∀ s', Inv X pins (σ.set i none) H s' → Q () s') : wpAny M A (do bindName X.env x .none; unbindBehindTheSuite X.env x pos) Q E s := by
  have hl : X.env.kindOf x = some .local := hk
  have plain : (X.env.scope.kind == .class || (X.env.scope.kind == .module && X.env.locals != X.env.globals)) = false := by rw [I.ok.kind]; rfl
  refine wpAny_bind (wpAny_bindName (store_ok I hN hi (.inl hk) (v := .non) rfl (fun s1 I1 => ?_) (.inr hk)))
  obtain ⟨m, hn, hm⟩ := id I1.loc
  unfold unbindBehindTheSuite
  refine wpAny_onRaise ?_
  unfold unbindName
  refine wpAny_bind (wpAny_point (wpAny_bind ?_))
  unfold deleteName
  simp only [hl, plain]
  rw [if_neg (by decide)]
  have there : m x = some .none := by
    have il : i < σ.length := by rw [I.len]; exact (List.getElem?_eq_some_iff.mp hi).1
    obtain ⟨u, r, q⟩ := hm i x .non hi (List.getElem?_set_self il) (.inl hk)
    rcases q with ⟨_, e⟩ | ⟨k, _⟩
    · cases r
      exact e
    · rw [hl] at k
      rcases k with k | k <;> cases k
  refine wpAny_bind (wpAny_nsDel_keeps hn fun h2 v2 n2 s2 => ?_)
  simp only [there, if_true, Option.isSome_some, Bool.not_true, Bool.false_eq_true, if_false]
  refine wpAny_pure (wpAny_point (h _ ?_))
  have J := I1.gone (t' := s1.toks) hN hi hm n2 s2
  rw [List.set_set] at J
  exact J
end

/-! ### a handler's class -/
theorem exc_matches {K : PySem.W.Frag} {M : Model} {A : Around} {E : Value → Shared → Prop} {s : Shared} {x C R : Addr} {o : Obj} {Q : Bool → Shared → Prop} (X : K.In s.heap) (hR : XC K R) (hx : s.heap.get? x = some o) (hc : o.cls = .ref C) (hm : mroIn K C (.ref R) = some true) (h : Q true s) :
    wpAny M A (excMatches (.ref x) (.ref R)) Q E s := by
  obtain ⟨hp, g, d, t, os⟩ := s
  obtain ⟨tl, N, nm, q, bs, hd, sn, sub, ab, col, dd, k0, k1, k2, k3, k5, mN, ho, _⟩ := hR.obj X
  have K0 : Looks M hp (typeOf (.ref x)) (.ref C) := hc ▸ (Looks.ld hx).andThen .now
  have K1 : Looks M hp (isSubtype (.ref C) (.ref R)) true := looks_mroIn X hm
  have K2 : Looks M hp (isSubtype (.ref R) (.type "BaseException")) true := looks_mroIn X hR.bx
  have K3 : Looks M hp (typeOf (.ref R)) (.type "type") := (Looks.ld ho).andThen .now
  have K4 : Looks M hp (isType (.ref R)) true := xc_isType hR X
  have f := tc_notTuple
  unfold excMatches
  repeat (first | with_reducible refine Looks.at (by assumption) ?_ | wp_step)
  exact h
end L2
end

section
set_option Elab.async false
set_option linter.all false
set_option maxRecDepth 100000
set_option maxHeartbeats 1000000
namespace L2
open PySem PySem.Spec PyProof.Rows PySem.W

/-! ### what a handler's frame sees -/
theorem fly_un {P : Program} {w : World} {l : List Env} {H H' : Hp} {h h1 h2 B : Heap} {x : Addr} {c a0 : Value} (un : Un (frs l) [] H H' h h1) (hok : HOk P w H' h1) (f1 : Heap.FlyingW B l x c a0 h1) (f2 : Heap.FlyingW B l x c a0 h2) (sm : h1.UpToSlots h2)
    (b1 : ∀ b o, h.get? b = some o → H b = none → b ∉ frs l → B.get? b = some o) (b2 : ∀ b o, H' b ≠ none → h1.get? b = some o → B.get? b = some o) (b3 : ∀ b o, h.get? b = some o → b ∉ frs l → ∃ o', B.get? b = some o') :
    Un (frs l) [] H H' h h2 ∧ HOk P w H' h2 := by
  have slot : ∀ b o, b ∈ frs l → h1.get? b = some o → ∃ sl, h2.get? b = some { o with slots := sl } := fun b o hb e => by
    obtain ⟨_, u, hu, hd⟩ := f1.2.2.1.mem hb
    rw [e] at hu
    cases hu
    exact sm b o e hd
  refine ⟨⟨fun b o e n hb _ => f2.1 b o (b1 b o e n hb), fun b o e n hb hx => ?_, un.free, fun b o e hx => ?_, un.tups, un.frzs, un.tbls⟩, fun b u e => ?_⟩
  · obtain ⟨sl, e1⟩ := un.slot b o e n hb hx
    obtain ⟨sl2, e2⟩ := slot b _ hb e1
    exact ⟨sl2, e2⟩
  · by_cases hb : b ∈ frs l
    · obtain ⟨o1, e1⟩ := un.there b o e hx
      obtain ⟨sl, e2⟩ := slot b o1 hb e1
      exact ⟨_, e2⟩
    · obtain ⟨o1, e1⟩ := b3 b o e hb
      exact ⟨o1, f2.1 b o1 e1⟩
  · exact (hok b u e).stay (fun c v hc q => f2.1 c v (b2 c v (hc.elim (fun z => by rw [z, e]; exact nofun) fun z => by rw [z]; exact nofun) q)) (fun _ q => q) fun _ _ q => q
/-- .. with the exception tracked -/
theorem fly_trk {P : Program} {w : World} {l : List Env} {H H' : Hp} {h h2 B : Heap} {x C : Addr} {a0 : Value} (un : Un (frs l) [] H H' h h2) (hok0 : HOk P w H h) (hok : HOk P w H' h2) (f2 : Heap.FlyingW B l x (.ref C) a0 h2)
    (hx' : H' x = none) (b3 : ∀ b o, h.get? b = some o → b ∉ frs l → ∃ o', B.get? b = some o') :
    Un (frs l) [] H (upd H' x (exO x C)) h h2 ∧ HOk P w (upd H' x (exO x C)) h2 := by
  obtain ⟨oe, vs, hoe, hoc, hod, _⟩ := f2.first
  have new : h.get? x = none := by
    cases q : h.get? x with
    | none => rfl
    | some o =>
      by_cases hb : x ∈ frs l
      · obtain ⟨_, u, hu, hd⟩ := f2.2.2.1.mem hb
        rw [hoe] at hu
        cases hu
        exact absurd hod (hd vs)
      · obtain ⟨o1, e1⟩ := b3 x o q hb
        rw [f2.2.1] at e1
        cases e1
  have ne : ∀ b o, h.get? b = some o → b ≠ x := fun b o e z => by rw [z, new] at e; cases e
  have nt : ∀ b u, H b = some u → b ≠ x := fun b u e => let ⟨o, q⟩ := (hok0 b u e).th; ne b o q
  have nt' : ∀ b u, H' b = some u → b ≠ x := fun b u e z => by rw [z, hx'] at e; cases e
  refine ⟨⟨un.keep, un.slot, fun b o e n hx => ?_, un.there, fun b xs q => ?_, fun b o u q => ?_, fun b ps q => ?_⟩, fun b u e => ?_⟩
  · rw [upd_ne (ne b o e)]
    exact un.free b o e n hx
  · rw [upd_ne (nt b _ q)]
    exact un.tups b xs q
  · rw [upd_ne (nt b _ q)]
    exact un.frzs b o u q
  · obtain ⟨m, q1⟩ := un.tbls b ps q
    exact ⟨m, by rw [upd_ne (nt b _ q)]; exact q1⟩
  · by_cases z : b = x
    · subst z
      rw [upd_same] at e
      cases e
      exact exO_ok hoe hoc
    · rw [upd_ne z] at e
      exact (hok b u e).stay (fun c v hc q => q) (fun c q => by rw [upd_ne (nt' c _ q)]; exact q) fun c xs q => by rw [upd_ne (nt' c _ q)]; exact q

/-- within an except suite -/
abbrev Cx.suite (X : Cx) (x : Addr) : Cx := { X with A := X.A.mark (some (.ref x)), calm := false, xe := fun _ _ => False }
/-- within a try's body: its pins are everyone's -/
abbrev Cx.tryc (X : Cx) (pn : List (Addr × Obj)) (W : Value → Shared → Prop) : Cx := { X with pn := pn, xe := W }
section
variable {X : Cx} {pins pn : List (Addr × Obj)} {σ : St} {H : Hp} {s : Shared} {W : Value → Shared → Prop}
theorem Inv.suite {x : Addr} (I : Inv X pins σ H s) : Inv (X.suite x) pins σ H s :=
  ⟨⟨I.ok.mod, I.ok.kind, I.ok.glob, I.ok.blt, I.ok.above, I.ok.inj, I.ok.has, I.ok.cab, fun z => (by cases z), I.ok.frames, I.ok.stk, I.ok.exf, I.ok.bs, I.ok.bsz, I.ok.noex, I.ok.exfs, I.ok.funs, I.ok.frf⟩, I.os, I.bare, I.base, I.loc, I.cell, I.free, I.freeC, I.pin, I.hok, I.len⟩
theorem Inv.unsuite {x : Addr} {σ' : St} {H' : Hp} {s' : Shared} (I : Inv X pins σ H s) (J : Inv (X.suite x) pins σ' H' s') : Inv X pins σ' H' s' := ⟨I.ok, J.os, J.bare, J.base, J.loc, J.cell, J.free, J.freeC, J.pin, J.hok, J.len⟩
theorem Inv.tryc (I : Inv X pins σ H s) (W : Value → Shared → Prop) : Inv (X.tryc (X.pn ++ pins) W) [] σ H s :=
  ⟨⟨I.ok.mod, I.ok.kind, I.ok.glob, I.ok.blt, I.ok.above, I.ok.inj, I.ok.has, I.ok.cab, I.ok.hd, I.ok.frames, I.ok.stk, I.ok.exf, I.ok.bs, I.ok.bsz, I.ok.noex, I.ok.exfs, I.ok.funs, I.ok.frf⟩, I.os, I.bare, I.base, I.loc, I.cell, I.free, I.freeC, fun p hp => I.pin p (by simpa using hp), I.hok, I.len⟩
theorem Inv.untry {ps : List (Addr × Obj)} {σ' : St} {H' : Hp} {s' : Shared} (I : Inv X pins σ H s) (J : Inv (X.tryc (X.pn ++ pins) W) ps σ' H' s') : Inv X pins σ' H' s' :=
  ⟨I.ok, J.os, J.bare, J.base, J.loc, J.cell, J.free, J.freeC, fun p hp => J.pin p (List.mem_append_left _ hp), J.hok, J.len⟩
end

/-- an exception of a call made while the names have the values σ0 -/
def PassesAt (CX : CXT) (X : Cx) (E : XK) (σ0 : St) : Prop := ∀ (pins : List (Addr × Obj)) (H : Hp) (s : Shared) (e : Value) (s' : Shared), Inv X pins σ0 H s → CX X.stack H s E e s' → X.xe e s'
def tAt (σ0 : St) (t : TE) : TE := fun σ H Q => σ = σ0 ∧ t σ H Q
section
variable {X : Cx}
theorem pe_dfAt {n k : Nat} {x : Str} {ps : List Str} {sp : Sp} {E : XK} {σ0 : St} {p pos : Pos} {e : Expr} {es : List Expr} {t : TA} (D : DfX X.prog X.w X.K X.mg X.base k x ps sp) (hr : Room n X.A) (hk : k ≤ n) (hp : PassesAt (CXF X.prog X.w X.K) X E σ0) (hg : Gl X x) (ha : PA X (e :: es) t)
    (hdb : (x == ("__debug__" : Str)) = false := by decide) (he : starEach (e :: es) X.env = (false, eval e X.env) :: starEach es X.env := by rfl) (hpl : (backTo pos (starEach es X.env)).any (·.1) = false := by rfl) :
    PE X (.Call (.Name x p) (e :: es) [] pos) (tAt σ0 (tCall sp [] E t)) := by
  obtain ⟨f, fd, F, hb, kp, hm⟩ := D.ex
  intro pins s σ H Q I h
  obtain ⟨rfl, h⟩ := h
  refine wpAny_Call_Name_kw (ld_glob I hg hm ?_ hdb)
  refine PySem.W.callWith_K (h₀ := X.base) I.ok.mod.kin kp (thn (ha pos pins s σ H _ I h) fun us s1 ⟨vs, H1, I1, r, q⟩ => ⟨I1.kIn, ?_⟩) he hpl
  have r2 : Vals (vs ++ []) us := by rw [List.append_nil]; exact r
  have hl : us.length = ps.length := by rw [← r2.length]; exact F.len _ _ _ _ q
  have bt := hb s1 us I1.kIn (by rw [List.append_nil]; exact hl)
  rw [List.append_nil] at bt
  refine wpAny_call (codeAny_mono (F.run X.A X.stack s1 H1 ⟨us, []⟩ us (vs ++ []) Q E (hr.mono hk) I1.env0 bt r2 q) fun r s' hq => ?_)
  cases r with
  | error e => exact hp pins H1 s1 e s' I1 hq
  | ok fl =>
    cases fl with
    | ret u => exact I1.after hq
    | next => exact False.elim hq
    | brk => exact False.elim hq
    | cont => exact False.elim hq

/-- try: body, except R as n: suite -/
def tTry (K : PySem.W.Frag) (R : Addr) (i : Nat) (tb : St → XK → TS) (ts : TS) : TS := fun D σ H =>
  tb σ (fun c _ H' => ∃ C, c = .ref C ∧ XC K C ∧ mroIn K C (.ref R) = some true ∧ ∀ x, H' x = none →
    ts { nx := fun σ2 H2 => D.nx (σ2.set i none) H2, rt := D.rt, bk := fun σ2 H2 => D.bk (σ2.set i none) H2, ct := fun σ2 H2 => D.ct (σ2.set i none) H2 } (σ.set i (some (.ref x))) (upd H' x (exO x C))) D σ H
theorem ps_try {i : Nat} {n cx : Str} {R : Addr} {body : List Stmt} {b0 : Stmt} {suite : List Stmt} {np hp pos : Pos} {tb : St → XK → TS} {ts : TS} (T : Top1 X) (hN : X.N.Nodup) (hi : X.N[i]? = some n) (hl : X.env.scope.names.lookup n = some .local)
    (hg : Gl X cx) (hm : X.mg cx = some (.ref R)) (hR : XC X.K R)
    (hb : ∀ (pn : List (Addr × Obj)) (W : Value → Shared → Prop) (σ0 : St) (E : XK), PassesAt (CXF X.prog X.w X.K) (X.tryc pn W) E σ0 → PSs (X.tryc pn W) body (tb σ0 E))
    (hs : ∀ x, PSs (X.suite x) (b0 :: suite) ts) (hdb : (cx == ("__debug__" : Str)) = false := by decide) :
    PS X (.Try body [.ExceptHandler (some (.Name cx np)) (some n) (b0 :: suite) hp] [] [] pos) (tTry X.K R i tb ts) := by
  intro pins s σ H D I h
  refine wpAny_Try_except ?_
  refine wpAny_mono (hb (X.pn ++ pins) _ σ _ (fun pins' H1 s1 e s' J c => ?_) [] s σ H D (I.tryc _) h) (fun f s1 q => ?_) (fun e s1 q => q)
  · obtain ⟨x, C, t, B, H', rfl, hC, os, bare, un, hok, fl, b1, b2, b3, C', hCC, _, hmr, hE⟩ := c
    cases hCC
    have I1 : Inv X pins σ H1 s1 := I.untry J
    have fr0 : X.A.frames = some (X.env :: X.outer) := by rw [← T.stk]; exact I.ok.frames
    have hx' : H' x = none := by
      cases q : H' x with
      | none => rfl
      | some u =>
        obtain ⟨o, e⟩ := (hok x u q).th
        have := b2 x o (by rw [q]; exact nofun) e
        rw [fl.2.1] at this
        cases this
    have nn : ∀ b : Addr, b ∉ ([] : List Addr) := fun _ => List.not_mem_nil
    refine wpAny_looks_onW fr0 T.fr (by rw [← T.stk]; exact fl) fun h4 f4 m4 => ?_
    refine wpAny_landsW f4 fun h5 f5 m5 => ?_
    rw [← T.stk] at f5
    obtain ⟨u5, k5⟩ := fly_un un hok fl f5 (m4.trans m5) b1 b2 b3
    have I5 : Inv X pins σ H' { s' with heap := h5 } := I1.call' (s' := { s' with heap := h5 }) os u5 k5 bare fun _ z => absurd z (nn _)
    obtain ⟨oe, ve, hoe, hoc, _, _⟩ := f5.first
    refine wpAny_handleBy_cons (codeAny_handlers_test (ld_glob (X := X.suite x) I5.suite hg hm ?_ hdb)) (fun q => by cases q)
    refine exc_matches I5.kIn hR hoe hoc hmr (codeAny_handlers_suite_as ?_)
    refine lands_againW f5 fun h6 f6 m6 => ?_
    obtain ⟨u6, k6⟩ := fly_un un hok fl f6 ((m4.trans m5).trans m6) b1 b2 b3
    obtain ⟨u7, k7⟩ := fly_trk u6 I1.hok k6 f6 hx' b3
    have I7 : Inv X pins σ (upd H' x (exO x C)) { s' with heap := h6 } := I1.call' (s' := { s' with heap := h6 }) os u7 k7 bare fun _ z => absurd z (nn _)
    refine store_ok (X := X.suite x) I7.suite hN hi (.inl hl) (v := .ref x) rfl (fun s8 I8 => ?_) (.inr hl)
    refine wpAny_mono (hs x pins s8 _ _ _ I8 (hE x hx')) (fun f s9 q => ?_) fun _ _ z => z.elim
    cases f with
    | next =>
      obtain ⟨σ2, H2, J2, q⟩ := q
      exact name_goes (I.unsuite J2) hN hi hl fun s10 J3 => ⟨_, H2, J3, q⟩
    | brk =>
      obtain ⟨σ2, H2, J2, q⟩ := q
      exact name_goes (I.unsuite J2) hN hi hl fun s10 J3 => ⟨_, H2, J3, q⟩
    | cont =>
      obtain ⟨σ2, H2, J2, q⟩ := q
      exact name_goes (I.unsuite J2) hN hi hl fun s10 J3 => ⟨_, H2, J3, q⟩
    | ret u =>
      obtain ⟨v, σ2, H2, J2, r, q⟩ := q
      exact name_goes (I.unsuite J2) hN hi hl fun s10 J3 => ⟨v, _, H2, J3, r, q⟩
  · cases f with
    | next =>
      obtain ⟨σ2, H2, J2, q⟩ := q
      exact wpAny_execs_nil ⟨σ2, H2, I.untry J2, q⟩
    | brk =>
      obtain ⟨σ2, H2, J2, q⟩ := q
      exact ⟨σ2, H2, I.untry J2, q⟩
    | cont =>
      obtain ⟨σ2, H2, J2, q⟩ := q
      exact ⟨σ2, H2, I.untry J2, q⟩
    | ret u =>
      obtain ⟨v, σ2, H2, J2, r, q⟩ := q
      exact ⟨v, σ2, H2, I.untry J2, r, q⟩
end
end L2
end

section
set_option Elab.async false
set_option linter.all false
set_option maxRecDepth 100000
set_option maxHeartbeats 1000000
namespace L2
open PySem PySem.Spec PyProof.Rows
/-- an own class of refusals by its name; R: the class above all of them -/
structure Xcl (K : PySem.W.Frag) (mg : Str → Option Value) (n : Str) (C R : Addr) : Prop where
  m : mg n = some (.ref C)
  x : XC K C
  r : PySem.W.mroIn K C (.ref R) = some true
theorem kit_self (K : PySem.W.Frag) (v : Value) : PySem.W.kitOne K v v = some true := by
  unfold PySem.W.kitOne
  rw [if_pos (beq_self_eq_true v)]
section
variable {X : Cx}
/-- isinstance(e, C), the classes' table said -/
theorem call_isxK (K : PySem.W.Frag) (hK : X.K = K) : CallR X (.builtin "isinstance") (fun xs H Q => ∃ x C v cv b, xs = [.ref x, v] ∧ (∀ u, RelV v u → u = cv) ∧ H x = some (exO x C) ∧ XC K C ∧ PySem.W.kitOne K (.ref C) cv = some b ∧ Q (.bl b) H) := by
  subst hK
  exact call_isx
end
end L2
namespace Mir
end Mir
end

section
set_option Elab.async false
set_option linter.all false
set_option maxRecDepth 100000
set_option maxHeartbeats 1000000
/-! A comprehension whose element may refuse. -/
namespace L2
open PySem PySem.Spec PyProof.Rows
section
variable {prog : Program} {w : World} {A : Around} {R : Result → Shared → Prop} {s : Shared}
theorem compLoop_goE {elt target iter : Expr} {ifs : List Expr} {scope : Scope} {pos : Pos} {it acc : Value} {env : Env} (I : Nat → Shared → Prop)
    (turn : ∀ n s, I n s → wpAny (model prog w) A (pyNext it) (fun r s₁ => match r with
      | none => R (.ok .next) s₁
      | some v => wpAny (model prog w) A (letOwnedTupleGo target it v) (fun _ s₁' => wpAny (model prog w) A (assign target env v) (fun _ s₂ =>
          wpAny (model prog w) A (forIn ifs true fun c r => if r = true then do let ok ← isTrue c env (eval c env); pure (ForInStep.yield ok) else pure (ForInStep.yield r)) (fun ok s₃ =>
            if ok = true then wpAny (model prog w) A (eval elt env) (fun x s₄ =>
              wpAny (model prog w) A (call (.builtin "list.append") [acc, x]) (fun _ s₅ => ∃ m, m < n ∧ I m s₅) (fun _ _ => False) s₄) (notedBy (model prog w) A env fun e s' => R (.error e) s') s₃
            else ∃ m, m < n ∧ I m s₃) (fun _ _ => False) s₂) (fun _ _ => False) s₁') (fun _ _ => False) s₁) (fun _ _ => False) s)
    (n : Nat) (h : I n s) :
    codeAny (model prog w) A (.compLoop (.ListComp elt [⟨target, iter, ifs, 0⟩] scope pos) 0 it acc env) R s := by
  refine codeAny_loop rfl I (fun n s hI => ?_) n h
  show wpAny _ A ((compTurn (.ListComp elt [⟨target, iter, ifs, 0⟩] scope pos) 0 it acc env).onRaise (fun x => do noteFrame x env; theTreesLotGoes x)) _ _ s
  refine wpAny_noted ?_
  rw [compTurn_list]
  refine wpAny_bind (wpAny_standAt (wpAny_bind (wpAny_mono (turn n s hI) (fun r s₁ h₁ => ?_) fun _ _ h' => h'.elim)))
  cases r with
  | none => exact wpAny_pure h₁
  | some v =>
    refine wpAny_bind (wpAny_mono h₁ (fun _ s₁' h₁' => ?_) fun _ _ h' => h'.elim)
    refine wpAny_bind (wpAny_mono h₁' (fun _ s₂ h₂ => wpAny_bind (wpAny_mono h₂ (fun ok s₃ h₃ => ?_) fun _ _ h' => h'.elim)) fun _ _ h' => h'.elim)
    cases ok with
    | false => exact wpAny_pure ⟨rfl, h₃⟩
    | true =>
      exact wpAny_bind (wpAny_bind (wpAny_mono h₃ (fun x s₄ h₄ => wpAny_bind (wpAny_mono h₄ (fun _ s₅ h₅ => wpAny_pure (wpAny_pure ⟨rfl, h₅⟩)) fun _ _ h' => h'.elim)) fun _ _ h' => h'))
end
section
variable {X : Cx} {scope : Scope} {x : Str} {px pos : Pos} {caps : List (Nat × Str)} {elt iter : Expr} {ifs : List Expr} {wi : TI} {tc : TT} {te : TE}
theorem comp_blockE {EX : XK} (ok : CompOk X scope x caps) (hc : X.calm = true) (ht : ∀ s₃ H₃ fp, PIf (compCx X scope x caps s₃ H₃ fp) ifs tc) (he : ∀ s₃ H₃ fp W, Passes (CXF X.prog X.w X.K) ((compCx X scope x caps s₃ H₃ fp).wish W) EX → PE ((compCx X scope x caps s₃ H₃ fp).wish W) elt te)
    {pins : List (Addr × Obj)} {σ : St} {s2 : Shared} {E : Value → Shared → Prop} {RR : Value → Addr → Result → Shared → Prop} {itv : Value} {Q : VK}
    (h2 : PIE X pins σ (.Name x px) (fun J H1 => CompR J H1 (capv caps σ) tc te Q) itv s2)
    (fin : ∀ D C s' m' H', s'.heap.Ns C m' → Inv X pins σ H' s' → Q (.ref D) H' → (H' C = none ∧ X.s₀.heap.objs.size ≤ C ∧ C ≠ X.env.locals ∧ (∀ y c, X.env.cells.lookup y = some c → c ≠ C) ∧ ∀ p ∈ X.pn ++ pins, p.1 ≠ C) →
      (∀ h'', Heap.SameBut C s'.heap h'' → EP X pins σ Q (.ref D) { s' with heap := h'' }) → RR (.ref D) C (.ok .next) s')
    (err : ∀ (D : Addr) (s3 : Shared) (H3 : Hp) (fp : List Addr) (ps : List (Addr × Obj)) (σc : St) (Hc : Hp) (sc : Shared) (e : Value) (s' : Shared), Inv X pins σ H3 s3 → (∀ b ∈ fp, FpOk X pins H3 b) → Inv (compCx X scope x caps s3 H3 fp) ps σc Hc sc → CXF X.prog X.w X.K X.stack Hc sc EX e s' →
      wpAny (model X.prog X.w) X.A (noteFrame e X.env) (fun _ s'' => RR (.ref D) s3.heap.objs.size (.error e) s'') (fun e' s'' => RR (.ref D) s3.heap.objs.size (.error e') s'') s') :
    wpAny (model X.prog X.w) X.A (newList []) (fun acc s₃ => wpAny (model X.prog X.w) X.A (newFunctionEnv scope X.env.globals (clOf X.env scope.names []) [] X.env.qual none .none (some X.env)) (fun cenv s₄ =>
      codeAny (model X.prog X.w) X.A (.compStart (.ListComp elt [⟨.Name x px, iter, ifs, 0⟩] scope pos) 0 itv acc { cenv with scope := relabel scope X.env }) (RR acc cenv.locals) s₄) E s₃) E s2 := by
  obtain ⟨it, fp, tn, J, H2, rfl, I2, T, st2, f2, h2⟩ := h2
  obtain ⟨W, ⟨m0, w0⟩, turn⟩ := h2 s2.heap.objs.size I2.fresh
  refine wpAny_newObj_type (wpAny_newFunctionEnv ok.nocell (by intro y hy; simp at hy) (fun h₁ hns₁ hsb₁ => ?_) ok.kind)
  dsimp only at hns₁ hsb₁ ⊢
  have I3 : Inv X pins σ (upd H2 s2.heap.objs.size (.lst [])) { s2 with heap := s2.heap.push { cls := .type "list", data := .seq ([] : List Value).toArray } } := I2.lnew (its := []) (t' := s2.toks) .nil (Nat.zero_le _)
  generalize hs3 : ({ s2 with heap := s2.heap.push { cls := .type "list", data := .seq ([] : List Value).toArray } } : Shared) = s3 at I3
  have hh : s2.heap.push { cls := .type "list", dict := none, data := .seq ([] : List Value).toArray } = s3.heap := by rw [← hs3]
  rw [hh] at hns₁ hsb₁ ⊢
  have e4 : ({ s2 with heap := h₁, toks := s2.toks + ([] : List (Str × Value)).length } : Shared) = { s3 with heap := h₁, toks := s3.toks } := by rw [← hs3]; rfl
  have k3 : ∀ b o, s2.heap.get? b = some o → s3.heap.get? b = some o := fun b o e => by rw [← hh]; exact Heap.get?_push_of_some _ e
  have k4 : ∀ b o, s3.heap.get? b = some o → h₁.get? b = some o := fun b o e => hsb₁.extBut b o (Nat.ne_of_lt (Heap.lt_size e)) (Heap.get?_push_of_some _ e)
  have flt2 : ∀ b ∈ fp, b < s2.heap.objs.size := fun b hb => by obtain ⟨o, e, _⟩ := T.obj _ _ st2 b hb; exact Heap.lt_size e
  have sz3 : s3.heap.objs.size = s2.heap.objs.size + 1 := by rw [← hh, Heap.size_push]
  have flt : ∀ b ∈ fp, b < s3.heap.objs.size := fun b hb => by rw [sz3]; exact Nat.lt_succ_of_lt (flt2 b hb)
  have f3 : ∀ b ∈ fp, FpOk X pins (upd H2 s2.heap.objs.size (.lst [])) b := fun b hb => ⟨by rw [upd_ne (Nat.ne_of_lt (flt2 b hb))]; exact (f2 b hb).1, (f2 b hb).2⟩
  have I4 := comp_inv ok I3 f3 flt (tk := s3.toks) hns₁ k4
  have st4 : tn 0 h₁ := T.keep _ _ _ st2 fun b _ o e => k4 b o (k3 b o e)
  -- the objects of the iterator, in the block
  have f4 : ∀ {H' : Hp}, (∀ b ∈ fp, H' b = none) → ∀ b ∈ fp, FpOk (compCx X scope x caps s3 (upd H2 s2.heap.objs.size (.lst [])) fp) [] H' b := fun hn b hb =>
    ⟨hn b hb, Nat.ne_of_lt (flt b hb), I4.ok.exfs b hb, .inl hb, (I4.ok.exf b hb).2, fun p hp => nomatch hp⟩
  have loop : ∀ s4 : Shared, s4 = { s3 with heap := h₁, toks := s3.toks } →
      codeAny (model X.prog X.w) X.A (.compLoop (.ListComp elt [⟨.Name x px, iter, ifs, 0⟩] scope pos) 0 (.ref it) (.ref s2.heap.objs.size) (compEnvC scope (clOf X.env scope.names []) s3.heap.objs.size X.env))
        (RR (.ref s2.heap.objs.size) s3.heap.objs.size) s4 := by
    rintro s4 rfl
    refine compLoop_goE (fun n s' => ∃ i ys v0 H', Inv (compCx X scope x caps s3 (upd H2 s2.heap.objs.size (.lst [])) fp) [] (v0 :: capv caps σ) H' s' ∧ tn i s'.heap ∧ (∀ b ∈ fp, H' b = none) ∧ W i n ys H') ?_ m0
      ⟨0, [], none, _, I4, st4, fun b hb => (f3 b hb).1, w0⟩
    rintro n s5 ⟨i, ys, v0, H5, I5, st5, fr5, w5⟩
    rcases turn i n ys H5 w5 with ⟨stop, qn⟩ | ⟨go, step⟩
    · refine thn (T.done (compCx X scope x caps s3 (upd H2 s2.heap.objs.size (.lst [])) fp) rfl rfl rfl hc i [] s5 _ H5 _ I5 (f4 fr5) st5 stop) fun r s6 ⟨hr, I6⟩ => ?_
      subst hr
      obtain ⟨m', hn6, _⟩ := I6.loc
      refine fin _ _ s6 m' H5 hn6 (comp_back (h'' := s6.heap) I3 f3 I6 ⟨rfl, fun _ _ => rfl⟩) qn ⟨I6.free, I3.sz, ?_, fun y c e => ?_, fun p hp => ?_⟩ fun h'' hs'' => ⟨.ref _, H5, comp_back I3 f3 I6 hs'', rfl, qn⟩
      · obtain ⟨_, ⟨oL, _, _, hoL, _⟩, _⟩ := I3.loc
        exact Ne.symm (Nat.ne_of_lt (Heap.lt_size hoL))
      · obtain ⟨_, oc, hoc, _⟩ := I3.cell y c e
        exact Nat.ne_of_lt (Heap.lt_size hoc)
      · exact Nat.ne_of_lt (Heap.lt_size (I3.pin p hp).1)
    · refine thn (T.item (compCx X scope x caps s3 (upd H2 s2.heap.objs.size (.lst [])) fp) rfl rfl rfl hc i [] s5 _ H5 _ I5 (f4 fr5) st5 go) fun r s6 ⟨u, hr, h6⟩ => ?_
      subst hr
      refine thn h6 fun _ s7 ⟨v, H7, I7, r7, y7, st7, fr7⟩ => ?_
      have I7' := I7.pinned (f4 fr7) (T.obj _ _ st7)
      refine wpAny_assign_Name ?_
      refine store_ok (i := 0) I7' ok.nd rfl (.inl (lookup_relabel_local ok.var)) r7 (fun s8 I8 => ?_) (.inr (lookup_relabel_local ok.var))
      refine thn (ht _ _ _ _ s8 _ H7 _ I8 (step v H7 y7)) fun b s9 ⟨H9, I9, q9⟩ => ?_
      have back : ∀ {s' : Shared} {H' : Hp}, Inv (compCx X scope x caps s3 (upd H2 s2.heap.objs.size (.lst [])) fp) ([] ++ pinsAt fp s7.heap) (some v :: capv caps σ) H' s' → tn (i + 1) s'.heap ∧ ∀ b ∈ fp, H' b = none := fun {s' H'} I' =>
        ⟨T.keep _ _ _ st7 fun b hb o e => (I'.pin (b, o) (List.mem_append_right _ (List.mem_append_right _ (mem_pinsAt hb e)))).1, fun b hb => by
          obtain ⟨o, e, d⟩ := T.obj _ _ st7 b hb
          exact (I'.pin (b, o) (List.mem_append_right _ (List.mem_append_right _ (mem_pinsAt hb e)))).2.1⟩
      cases b with
      | false =>
        obtain ⟨m', hm, w9⟩ := q9
        exact ⟨m', hm, i + 1, ys, some v, H9, I9.unpinned, (back I9).1, (back I9).2, w9⟩
      | true =>
        refine wpAny_mono (he _ _ _ _ (fun ps σc Hc sc e s' Ic c => (show wpAny (model X.prog X.w) X.A (noteFrame e X.env) _ _ s' from err _ s3 _ fp ps σc Hc sc e s' I3 f3 Ic.unwish c)) _ s9 _ H9 _ (I9.wish _) q9) (fun y s10 ⟨z, H10, I10', r10, hD, hz, m', hm, w10⟩ => ?_) (fun _ _ z => z)
        have I10 := I10'.unwish
        refine thn (mt_append _ s10 _ H10 (.ref s2.heap.objs.size) [z] (.ref s2.heap.objs.size) [y] (fun v H' => v = .non ∧ H' = upd H10 s2.heap.objs.size (.lst (ys ++ [z]))) I10 rfl (.cons r10 .nil) ⟨_, ys, z, rfl, rfl, hD, hz, rfl, rfl⟩) fun _ s11 ⟨v11, H11, I11, _, _, e11⟩ => ?_
        subst e11
        exact ⟨m', hm, i + 1, ys ++ [z], some v, _, I11.unpinned, (back I11).1, (back I11).2, w10⟩
  rw [e4]
  exact codeAny_compStart_list (loop _ rfl) (T.self X.A 0 _ _ _ st4 (loop _ rfl))

end
end L2
end

section
set_option Elab.async false
set_option linter.all false
set_option maxRecDepth 100000
set_option maxHeartbeats 1000000
namespace L2
open PySem PySem.Spec PyProof.Rows
section
variable {X : Cx} {pins : List (Addr × Obj)} {σ : St} {H H' : Hp} {s s' : Shared} {E : XK} {M : Model} {A : Around} {E' : Value → Shared → Prop} {B h2 : Heap} {x C t : Addr}
/-- an exception that has left the frame, by what the frame knew of it -/
theorem left_cxf (T : Top1 X) (I : Inv X pins σ H' s') (hC : XC X.K C) (hE : E (.ref C) none H') (c1 : ∀ b o, X.s₀.heap.get? b = some o → X.H₀ b = none → b ∉ frs X.outer → B.get? b = some o) (c2 : ∀ b o, H' b ≠ none → s'.heap.get? b = some o → B.get? b = some o)
    (c3 : ∀ b o, X.s₀.heap.get? b = some o → b ∉ frs X.outer → ∃ o', B.get? b = some o') (f : Heap.FlyingW B X.outer x (.ref C) (.ref t) h2) (g2 : s'.heap.UpToSlots h2) :
    CXF X.prog X.w X.K X.outer X.H₀ X.s₀ E (.ref x) { s' with heap := h2 } := by
  have nex : ∀ b : Addr, b ∉ X.ex := fun b => by rw [T.ex]; exact List.not_mem_nil
  have slot : ∀ b o, b ∈ frs X.outer → s'.heap.get? b = some o → ∃ sl, h2.get? b = some { o with slots := sl } := fun b o hb e => g2 b o e (I.fs_data hb e)
  refine ⟨x, C, t, B, H', rfl, hC, I.os, I.bare, ⟨fun b o e n hb _ => f.1 b o (c1 b o e n hb), fun b o e n hb _ => ?_, fun b o e n _ => I.base.free b o e n (nex b), fun b o e _ => ?_, I.base.tups, I.base.frzs, I.base.tbls⟩, fun b u e => ?_, f, c1, fun b o hn e => ?_, c3, hE⟩
  · obtain ⟨sl, e1⟩ := I.base.slot b o e n hb (nex b)
    obtain ⟨sl2, e2⟩ := slot b _ hb e1
    exact ⟨sl2, e2⟩
  · by_cases hb : b ∈ frs X.outer
    · obtain ⟨o1, e1⟩ := I.base.there b o e (nex b)
      obtain ⟨sl, e2⟩ := slot b o1 hb e1
      exact ⟨_, e2⟩
    · obtain ⟨o2, e2⟩ := c3 b o e hb
      exact ⟨o2, f.1 b o2 e2⟩
  · exact (I.hok b u e).stay (fun c v hc q => f.1 c v (c2 c v (hc.elim (fun z => by rw [z, e]; exact nofun) fun z => by rw [z]; exact nofun) q)) (fun _ q => q) fun _ _ q => q
  · cases q : H' b with
    | none => exact absurd q hn
    | some u =>
      obtain ⟨o1, e1⟩ := (I.hok b u q).th
      have e2 := c2 b o1 hn e1
      have e3 := f.1 b o1 e2
      rw [e] at e3
      cases e3
      exact e2
/-- leaving, wherever the exception was last seen -/
theorem leaving_any {env : Env} {outer : List Env} {L : Addr} {cls a0 fl : Value} {Q : Unit → Shared → Prop} (hfr : A.frames = some (env :: outer)) (hl : s.heap.FunFrames B (env :: outer)) (hf : env.frame = some L) (ht : s.heap.TracedAtW B x cls a0 fl) (hkb : B.StaysIn s.heap) (hen : B.get? x = none)
    (h : ∀ h2, Heap.FlyingW B outer x cls a0 h2 → s.heap.UpToSlots h2 → Q () { s with heap := h2 }) : wpAny M A (leaving env (.ref x)) Q E' s := by
  obtain ⟨oe, vs, T, oT, ts, he, ⟨hcls, h0⟩, hd, h1, hnT, hTe, hT, hdT, h3⟩ := id ht
  subst hcls
  unfold leaving noteFrame
  simp only [hf]
  refine wpAny_bind (wpAny_bind (wpAny_field he hd h1 ?_))
  rw [if_pos (show (Value.ref T != Value.none) = true by simp)]
  refine wpAny_bind (wpAny_field hT hdT h3 ?_)
  by_cases c : (fl == rawInt L) = true
  · rw [if_pos c]
    refine wpAny_pure ?_
    refine wpAny_setFlight_noneW hkb hl ht fun h2 k1 k2 k3 k4 => ?_
    obtain ⟨_, _, k2'⟩ := k2
    exact h h2 ⟨k1, hen, k2', k3⟩ fun b o hb hn => ⟨o.slots, k4 b o hb hn⟩
  · rw [if_neg c]
    refine wpAny_bind (wpAny_setField hT hdT (Array.getElem?_eq_some_iff.mp h3).1 ?_)
    have other : ∀ b, b ≠ T → (s.heap.update T (Obj.mapFields (·.setIfInBounds 3 Value.none))).get? b = s.heap.get? b := fun b hb => Heap.get?_update_other _ _ (Ne.symm hb)
    have nrec : ∀ b o, s.heap.get? b = some o → (∀ ws, o.data ≠ .fields ws) → b ≠ T := fun b o hb hnf q => by
      rw [q, hT] at hb
      cases hb
      exact hnf ts hdT
    refine wpAny_newEntryW hfr (hl.of_keeps fun b o hb hnf => ⟨o, (other b (nrec b o hb hnf)).trans hb, rfl⟩) hf ((other x (Ne.symm hTe)).trans he)
      (fun b o hbo => (other b fun q => by rw [q, hnT] at hbo; cases hbo).trans (hkb b o hbo)) hen hd (Array.getElem?_eq_some_iff.mp h1).1 h0 fun h2 hL => ?_
    obtain ⟨k1, ⟨_, _, k2⟩, k3, k4⟩ := hL
    exact h h2 ⟨k1, hen, k2, k3⟩ fun b o hb hn => k4 b o ((other b (nrec b o hb hn)).trans hb) hn
end
section
variable {X : Cx} {scope : Scope} {x : Str} {caps : List (Nat × Str)}
/-- a refusal of a comprehension's element: noted here, passed on behind the block -/
theorem comp_err {E : XK} (T : Top1 X) (hX : ∀ e s', X.xe e s' ↔ wpAny (model X.prog X.w) X.A (leaving X.env e) (fun _ s2 => CXF X.prog X.w X.K X.outer X.H₀ X.s₀ E e s2) (fun e' s2 => CXF X.prog X.w X.K X.outer X.H₀ X.s₀ E e' s2) s')
    {pins : List (Addr × Obj)} {σ : St} {use : Option (Value → Sem Unit)} {QQ : Value → Shared → Prop} (D : Addr) (s3 : Shared) (H3 : Hp) (fp : List Addr) (ps : List (Addr × Obj)) (σc : St) (Hc : Hp) (sc : Shared) (e : Value) (s' : Shared)
    (I3 : Inv X pins σ H3 s3) (f3 : ∀ b ∈ fp, FpOk X pins H3 b) (Ic0 : Inv (compCx X scope x caps s3 H3 fp) ps σc Hc sc) (c : CXF X.prog X.w X.K X.stack Hc sc E e s') :
    wpAny (model X.prog X.w) X.A (noteFrame e X.env) (fun _ s'' => compPost (model X.prog X.w) X.A X.xe use QQ (.ref D) s3.heap.objs.size (.error e) s'') (fun e' s'' => compPost (model X.prog X.w) X.A X.xe use QQ (.ref D) s3.heap.objs.size (.error e') s'') s' := by
  obtain ⟨xe, C, t, B, H', rfl, hC, os, bare, un, hok, fl, b1, b2, b3, hE⟩ := c
  have Ic : Inv (compCx X scope x caps s3 H3 fp) [] σc Hc sc := Ic0.pins_of fun p hp => nomatch hp
  have fr0 : X.A.frames = some (X.env :: X.outer) := by rw [← T.stk]; exact I3.ok.frames
  have nn : ∀ b : Addr, b ∉ ([] : List Addr) := fun _ => List.not_mem_nil
  have nex : ∀ b : Addr, b ∉ X.ex := fun b => by rw [T.ex]; exact List.not_mem_nil
  refine wpAny_looks_onW fr0 T.fr (by rw [← T.stk]; exact fl) fun h4 f4 m4 => ?_
  have f4' : Heap.FlyingW B X.stack xe (.ref C) (.ref t) s'.heap := fl
  -- what the block knows behind it
  have slotD : ∀ b o, b ∈ frs X.stack → s'.heap.get? b = some o → ∃ sl, h4.get? b = some { o with slots := sl } := fun b o hb q => by
    obtain ⟨_, u, hu, hd⟩ := fl.2.2.1.mem hb
    rw [q] at hu
    cases hu
    exact m4 b o q hd
  have u4 : Un (frs X.stack) [] Hc H' sc.heap h4 := ⟨fun b o q n hb _ => f4.1 b o (b1 b o q n hb), fun b o q n hb hx => by
      obtain ⟨sl, e1⟩ := un.slot b o q n hb hx
      obtain ⟨sl2, e2⟩ := slotD b _ hb e1
      exact ⟨sl2, e2⟩, un.free, fun b o q hx => by
      by_cases hb : b ∈ frs X.stack
      · obtain ⟨o1, e1⟩ := un.there b o q hx
        obtain ⟨sl, e2⟩ := slotD b o1 hb e1
        exact ⟨_, e2⟩
      · obtain ⟨o1, e1⟩ := b3 b o q hb
        exact ⟨o1, f4.1 b o1 e1⟩, un.tups, un.frzs, un.tbls⟩
  have k4 : HOk X.prog X.w H' h4 := fun b u q => (hok b u q).stay (fun c v hc z => f4.1 c v (b2 c v (hc.elim (fun y => by rw [y, q]; exact nofun) fun y => by rw [y]; exact nofun) z)) (fun _ z => z) fun _ _ z => z
  have J4 : Inv (compCx X scope x caps s3 H3 fp) [] σc H' { s' with heap := h4 } := Ic.call' (s' := { s' with heap := h4 }) os u4 k4 bare fun _ z => absurd z (nn _)
  obtain ⟨m, hn, _⟩ := id J4.loc
  have JXc : Inv X pins σ Hc { sc with heap := sc.heap } := comp_back (s' := sc) I3 f3 Ic ⟨rfl, fun _ _ => rfl⟩
  have hCn : H' s3.heap.objs.size = none := J4.free
  -- the block's own frame stands in B
  have hCB : ∃ o, B.get? s3.heap.objs.size = some o := by
    obtain ⟨_, ⟨oL, _, _, hoL, _⟩, _⟩ := id Ic.loc
    refine ⟨oL, b1 _ oL hoL Ic.free fun z => ?_⟩
    have : s3.heap.objs.size ∈ frs X.stack := z
    obtain ⟨_, o, ho, _⟩ := I3.stack.mem this
    exact absurd (Heap.lt_size ho) (Nat.lt_irrefl _)
  obtain ⟨oC, hoC⟩ := hCB
  have hxC : xe ≠ s3.heap.objs.size := fun z => by have := f4.2.1; rw [z, hoC] at this; cases this
  have res : compPost (model X.prog X.w) X.A X.xe use QQ (.ref D) s3.heap.objs.size (.error (.ref xe)) { s' with heap := h4 } := by
    have goal : ∃ m, h4.Ns s3.heap.objs.size m ∧ ∀ h', Heap.SameBut s3.heap.objs.size h4 h' → ∀ cenv : Env, cenv.locals = s3.heap.objs.size → wpAny (model X.prog X.w) X.A (PySem.passOn "comprehension.variables-let-go" (.ref xe) cenv : Sem Value) (fun _ _ => False) X.xe { s' with heap := h' } := by
      refine ⟨m, hn, fun h5 hs cenv _ => ?_⟩
      have JX : Inv X pins σ H' { s' with heap := h5 } := comp_back (s' := { s' with heap := h4 }) I3 f3 J4 hs
      have keep5 : ∀ b o, b ≠ s3.heap.objs.size → h4.get? b = some o → h5.get? b = some o := fun b o z q => (hs.2 b z).trans q
      have B5 : ∀ b o, (PySem.W.hideAll B [s3.heap.objs.size]).get? b = some o → B.get? b = some o ∧ b ≠ s3.heap.objs.size := fun b o q => ⟨PySem.W.of_hideAll _ q, fun z => by rw [z, PySem.W.hideAll_none _ (by simp)] at q; cases q⟩
      have toB5 : ∀ b o, B.get? b = some o → b ≠ s3.heap.objs.size → (PySem.W.hideAll B [s3.heap.objs.size]).get? b = some o := fun b o q z => PySem.W.hideAll_get _ q (by simpa using z)
      have noneB5 : ∀ b, B.get? b = none → (PySem.W.hideAll B [s3.heap.objs.size]).get? b = none := fun b q => by
        cases z : (PySem.W.hideAll B [s3.heap.objs.size]).get? b with
        | none => rfl
        | some o => have := (B5 b o z).1; rw [q] at this; cases this
      have ff : ∀ {l : List Env}, h4.FunFrames B l → h5.FunFrames (PySem.W.hideAll B [s3.heap.objs.size]) l := by
        intro l
        induction l with
        | nil => exact fun _ => trivial
        | cons env r ih =>
          rintro ⟨hk, ⟨L, o, hf, hn', ho, hd⟩, hr⟩
          exact ⟨hk, ⟨L, o, hf, noneB5 L hn', keep5 L o (fun z => by rw [z, hoC] at hn'; cases hn') ho, hd⟩, ih hr⟩
      obtain ⟨oe, vs, TT, oT, ts, he, hcls, hd, h1, hnT, hTe, hT, hdT, h3⟩ := f4.2.2.2
      have hTC : TT ≠ s3.heap.objs.size := fun z => by rw [z, hoC] at hnT; cases hnT
      have he5 := keep5 _ _ hxC he
      have hT5 := keep5 _ _ hTC hT
      unfold PySem.passOn
      refine wpAny_bind (wpAny_field (s := { s' with heap := h5 }) he5 hd h1 ?_)
      rw [if_neg (show ¬ ((Value.ref TT == Value.none) = true) by simp)]
      refine wpAny_bind ?_
      unfold setFlight
      refine wpAny_bind (wpAny_field (s := { s' with heap := h5 }) he5 hd h1 ?_)
      rw [if_pos (show (Value.ref TT != Value.none) = true by simp)]
      have hsz3 : 3 < ts.size := (Array.getElem?_eq_some_iff.mp h3).1
      refine wpAny_setField hT5 hdT hsz3 ?_
      refine wpAny_throw ((hX _ _).mpr ?_)
      generalize hfl : (cenv.frame.elim Value.none fun f => rawInt f) = flv
      have oth : ∀ b, b ≠ TT → (h5.update TT (Obj.mapFields (·.setIfInBounds 3 flv))).get? b = h5.get? b := fun b hb => Heap.get?_update_other _ _ (Ne.symm hb)
      have nrec : ∀ b o, h5.get? b = some o → (∀ ws, o.data ≠ .fields ws) → b ≠ TT := fun b o hb hnf q => by
        rw [q, hT5] at hb
        cases hb
        exact hnf ts hdT
      have f6 : (h5.update TT (Obj.mapFields (·.setIfInBounds 3 flv))).FunFrames (PySem.W.hideAll B [s3.heap.objs.size]) (X.env :: X.outer) := by
        have := ff f4.2.2.1
        exact this.of_keeps fun b o hb hnf => ⟨o, (oth b (nrec b o hb hnf)).trans hb, rfl⟩
      refine leaving_any (s := { s' with heap := h5.update TT (Obj.mapFields (·.setIfInBounds 3 flv)) }) (fl := flv) (cls := .ref C) (a0 := .ref t) fr0 f6 T.fr ?_ ?_ (noneB5 _ f4.2.1) fun h2 g1 g2 => ?_
      · exact ⟨oe, vs, TT, _, _, (oth xe (Ne.symm hTe)).trans he5, hcls, hd, h1, noneB5 _ hnT, hTe, Heap.get?_update_self _ hT5 (Obj.isFreed_of_fields (Obj.data_mapFields hdT _)), Obj.data_mapFields hdT _, by simp [hsz3]⟩
      · exact fun b o q => (oth b fun z => by rw [z, noneB5 _ hnT] at q; cases q).trans (keep5 b o (B5 b o q).2 (f4.1 b o (B5 b o q).1))
      · have up : h5.UpToSlots (h5.update TT (Obj.mapFields (·.setIfInBounds 3 flv))) := fun b o hb hnf => ⟨o.slots, (oth b (nrec b o hb hnf)).trans hb⟩
        have old : ∀ b o, X.s₀.heap.get? b = some o → b ≠ s3.heap.objs.size := fun b o q => Nat.ne_of_lt (Nat.lt_of_lt_of_le (Heap.lt_size q) I3.sz)
        have nf : ∀ b o, X.s₀.heap.get? b = some o → b ∉ frs X.outer → b ∉ frs X.stack := fun b o q hb => I3.old_stk q hb
        refine left_cxf (s' := { s' with heap := h5 }) T JX hC hE (fun b o q n hb => ?_) (fun b o hn' q => ?_) (fun b o q hb => ?_) g1 (up.trans g2)
        · exact toB5 b o (b1 b o (JXc.base.keep b o q n hb (nex b)) (JXc.base.free b o q n (nex b)) (nf b o q hb)) (old b o q)
        · have hbC : b ≠ s3.heap.objs.size := fun z => hn' (by rw [z]; exact hCn)
          have q4 : h4.get? b = some o := (hs.2 b hbC).symm.trans q
          cases z : H' b with
          | none => exact absurd z hn'
          | some u =>
            obtain ⟨o1, e1⟩ := (hok b u z).th
            have e2 := b2 b o1 hn' e1
            have e3 := f4.1 b o1 e2
            rw [q4] at e3
            cases e3
            exact toB5 b o e2 hbC
        · obtain ⟨o1, e1⟩ := JXc.base.there b o q (nex b)
          obtain ⟨o2, e2⟩ := b3 b o1 e1 (nf b o q hb)
          exact ⟨o2, toB5 b o2 e2 (old b o q)⟩
    cases use <;> exact goal
  exact res
end
section
variable {X : Cx} {scope : Scope} {x : Str} {px pos : Pos} {caps : List (Nat × Str)} {elt iter : Expr} {ifs : List Expr} {wi : TI} {tc : TT} {te : TE}
/-- y = [.. for ..], the element may refuse -/
theorem ps_setcE {i : Nat} {y : Str} {py spos : Pos} {E : XK} (T : Top1 X) (hX : ∀ e s', X.xe e s' ↔ wpAny (model X.prog X.w) X.A (leaving X.env e) (fun _ s2 => CXF X.prog X.w X.K X.outer X.H₀ X.s₀ E e s2) (fun e' s2 => CXF X.prog X.w X.K X.outer X.H₀ X.s₀ E e' s2) s')
    (hN : X.N.Nodup) (hi : X.N[i]? = some y) (hy : Loc X.env.scope y) (ok : CompOk X scope x caps) (hc : X.calm = true) (hit : PI X (.Name x px) iter wi) (ht : ∀ s₃ H₃ fp, PIf (compCx X scope x caps s₃ H₃ fp) ifs tc)
    (he : ∀ s₃ H₃ fp W, Passes (CXF X.prog X.w X.K) ((compCx X scope x caps s₃ H₃ fp).wish W) E → PE ((compCx X scope x caps s₃ H₃ fp).wish W) elt te)
    (hsw : swapsWith (.ListComp elt [⟨.Name x px, iter, ifs, 0⟩] scope pos) (some (.Name y py)) spos.line X.env = pure true := by rfl) (hf : X.fn y = true ∨ X.env.scope.names.lookup y = some .local := by first | exact .inl rfl | exact .inr rfl | assumption)
    (hs : ∀ x, foldedSetIterable iter X.env x = pure x := by intro _; rfl) : PS X (.Assign [.Name y py] (.ListComp elt [⟨.Name x px, iter, ifs, 0⟩] scope pos) spos) (fun D σ H => tComp caps wi tc te σ H fun v H1 => D.nx (σ.set i (some v)) H1) := by
  intro pins s σ H D I h
  rw [exec_Assign_Name_used _ _ _ _ hsw]
  refine wpAny_bind (wpAny_standAt (wpAny_bind ?_))
  show wpAny _ X.A (do let _ ← comprehension (.ListComp elt [⟨.Name x px, iter, ifs, 0⟩] scope pos) scope X.env _ (newList []) false (eval iter X.env) (some (assign (.Name y py) X.env))) _ _ s
  refine wpAny_bind (wpAny_mono (wpAny_comprehension_free (Q := fun _ s' => SP X pins D .next s') rfl hs ok.clos ok.kind ok.names (thn (hit pins s σ H _ I h) fun v s1 h1 => thn h1 fun itv s2 h2 => ?_))
    (fun _ s' hq => wpAny_pure (wpAny_pure hq)) fun _ _ e => e)
  refine comp_blockE (EX := E) (RR := fun acc C => compPost (model X.prog X.w) X.A X.xe (some (assign (.Name y py) X.env)) (fun _ s' => SP X pins D .next s') acc C) ok hc ht he h2 (fun Dd C s' m' H' hn I' q' fr _ => ?_)
    fun Dd s3 H3 fp ps σc Hc sc e s' I3 f3 Ic c => comp_err T hX Dd s3 H3 fp ps σc Hc sc e s' I3 f3 Ic c
  obtain ⟨f1, f2, f3, f4, f5⟩ := fr
  refine wpAny_assign_Name (store_ok2 I' hN hi hy (show RelV (.ref Dd) (.ref Dd) from rfl) (fun s8 I8 ⟨a, hsb, ha⟩ => ?_) hf)
  have haC : C ≠ a := by
    rcases ha with rfl | ha
    · exact f3
    · exact Ne.symm (f4 _ _ ha)
  refine ⟨m', hn.sameBut hsb haC, fun h' hs' => ⟨_, H', ?_, q'⟩⟩
  exact I8.turned (it := C) (h' := h') (t' := s8.toks) (fun b o hb e => (hs'.2 b hb).trans e) f1 f3 (.inr f2) f4 f5
end
end L2
end

section
set_option Elab.async false
set_option linter.all false
set_option maxRecDepth 100000
set_option maxHeartbeats 1000000
namespace Mir
/-! ### how great the numbers of a drawn row are: by the product of the row -/
theorem le_prod : ∀ {l : List Int} {x : Int}, (∀ y ∈ l, 1 ≤ y) → x ∈ l → x ≤ prodL l
  | [], _, _, h => nomatch h
  | y :: l, x, hp, h => by
    rw [prodL_cons]
    have h1 := hp y List.mem_cons_self
    have hl := prodL_pos fun z hz => hp z (List.mem_cons_of_mem _ hz)
    rcases List.mem_cons.mp h with rfl | h
    · have := Int.mul_le_mul_of_nonneg_left hl (show 0 ≤ x by omega)
      rw [Int.mul_one] at this; exact this
    · have h2 := le_prod (fun z hz => hp z (List.mem_cons_of_mem _ hz)) h
      have := Int.mul_le_mul_of_nonneg_right h1 (show 0 ≤ prodL l by omega)
      rw [Int.one_mul] at this
      omega
theorem near_prod {t : Int} {row : List Int} {p : Nat} (ht : 0 ≤ t) (hpos : ∀ x ∈ row, 1 ≤ x) (hp : p < row.length) : prodL (near t row p) ≤ t * (prodL row * prodL row) := by
  have e1 := prodL_perm (near_perm t row p)
  have e2 := prodL_perm (erase_perm hp)
  rw [prodL_cons] at e1 e2
  have hv : 1 ≤ row.getD p 0 := hpos _ (getD_mem hp)
  have ho : ∀ x ∈ row.eraseIdx p, 1 ≤ x := fun x hx => hpos x (List.mem_of_mem_eraseIdx hx)
  have hE := prodL_pos ho
  generalize prodL (row.eraseIdx p) = E at e1 e2 hE
  have hn : newAt t row p ≤ t * prodL row := by
    unfold newAt
    have : prodL (row.eraseIdx p) ≤ prodL row := by
      have q := prodL_perm (erase_perm hp)
      rw [prodL_cons] at q
      have hE' := prodL_pos ho
      have := Int.mul_le_mul_of_nonneg_right hv (show 0 ≤ prodL (row.eraseIdx p) by omega)
      rw [Int.one_mul] at this
      omega
    have := Int.mul_le_mul_of_nonneg_left this ht
    omega
  have hER : E ≤ prodL row := by
    have := Int.mul_le_mul_of_nonneg_right hv (show 0 ≤ E by omega)
    rw [Int.one_mul] at this
    omega
  rw [e1]
  have hR : 0 ≤ prodL row := by omega
  have s1 := Int.mul_le_mul_of_nonneg_right hn (show 0 ≤ E by omega)
  have s2 := Int.mul_le_mul_of_nonneg_left hER (Int.mul_nonneg ht hR)
  rw [← Int.mul_assoc]
  exact Int.le_trans s1 s2
theorem tab_prod : ∀ r ∈ tab, 0 ≤ r.1 ∧ r.1 < 16 ∧ prodL r.2 < 64 := by decide +kernel
def pb : Nat → Nat
  | 0 => 6
  | k + 1 => 2 * pb k + 4
theorem walk_prod {t : Int} {ns row : List Int} (ht0 : 0 ≤ t) (ht : t < 16) (htn : t.natAbs < 2 ^ 4) (hf : Fine 3 row) (h : RowP t row) (h0 : prodL row < 64) : ∀ k, prodL (walk t ns row k) < 2 ^ pb k
  | 0 => h0
  | k + 1 => by
    have ih := walk_prod (ns := ns) ht0 ht htn hf h h0 k
    have hr := walk_row (ns := ns) htn hf h k
    have hl := (walk_fine (ns := ns) htn hf k).lo
    have hpp := prodL_pos hr.pos
    show prodL (stepR t ns (walk t ns row k) k) < _
    generalize walk t ns row k = R at ih hr hl hpp
    have e : (2 : Int) ^ pb (k + 1) = 16 * (2 ^ pb k * 2 ^ pb k) := by
      show (2 : Int) ^ (2 * pb k + 4) = _
      rw [Int.pow_add, Nat.two_mul, Int.pow_add, Int.mul_comm]; rfl
    have big : prodL R * prodL R < 2 ^ pb k * 2 ^ pb k := by
      have a1 := Int.mul_le_mul_of_nonneg_left (Int.le_of_lt ih) (show 0 ≤ prodL R by omega)
      have a2 := Int.mul_lt_mul_of_pos_right ih (show (0 : Int) < 2 ^ pb k by omega)
      omega
    unfold stepR
    have hpl : (cell ns (2 + k) % (R.length : Int)).toNat < R.length := by
      have := Int.emod_lt_of_pos (cell ns (2 + k)) (show (0 : Int) < (R.length : Int) by omega)
      have := Int.emod_nonneg (cell ns (2 + k)) (show (R.length : Int) ≠ 0 by omega)
      omega
    simp only
    split
    · have q := near_prod ht0 hr.pos hpl
      have h1 : t * (prodL R * prodL R) ≤ 15 * (prodL R * prodL R) := Int.mul_le_mul_of_nonneg_right (by omega) (Int.mul_nonneg (by omega) (by omega))
      have hA0 : 0 ≤ prodL R * prodL R := Int.mul_nonneg (by omega) (by omega)
      rw [e]
      generalize prodL R * prodL R = A at *
      generalize (2 : Int) ^ pb k * 2 ^ pb k = B at *
      omega
    · rw [e]
      have h1 : prodL R ≤ prodL R * prodL R := by
        have := Int.mul_le_mul_of_nonneg_right hpp (show 0 ≤ prodL R by omega)
        rw [Int.one_mul] at this; exact this
      generalize prodL R * prodL R = A at *
      generalize (2 : Int) ^ pb k * 2 ^ pb k = B at *
      omega
theorem pb_mono {j k : Nat} (h : j ≤ k) : pb j ≤ pb k := by
  induction h with
  | refl => exact Nat.le_refl _
  | step h ih => show _ ≤ 2 * pb _ + 4; omega
/-- a drawn number is below 2 ^ 636 -/
theorem drawn_small (ns : List Int) : ∀ x ∈ drawnR ns, x < 2 ^ 636 := fun x hx => by
  obtain ⟨h1, h2, h3⟩ := tab_prod _ (root_mem (cell ns 0))
  have hw := walk_prod (ns := ns) h1 h2 (drawnT_lt ns) (root_fine _) (root_row _) h3 (drawnN ns)
  have hr := (drawn_row ns).pos
  have hle := le_prod hr hx
  have hm : (2 : Int) ^ pb (drawnN ns) ≤ 2 ^ 636 := by
    have : pb (drawnN ns) ≤ 636 := Nat.le_trans (pb_mono (drawnN_le ns)) (by decide)
    have q := Nat.pow_le_pow_right (show 0 < 2 by decide) this
    exact_mod_cast q
  exact Int.lt_of_le_of_lt hle (Int.lt_of_lt_of_le hw hm)
end Mir
end

section
set_option Elab.async false
set_option linter.all false
set_option maxRecDepth 100000
set_option maxHeartbeats 1000000
namespace L2
open PySem PySem.Spec PyProof.Rows
section
variable {X : Cx}
theorem vals_strs : ∀ {xs : List Str} {us : List Value}, Vals (xs.map V.str) us → ∃ l : List (Str × Tok), us = strValues l ∧ l.map (·.1) = xs
  | [], _, h => by cases h; exact ⟨[], rfl, rfl⟩
  | x :: xs, _, h => by
    cases h with
    | cons r t =>
      obtain ⟨l, e1, e2⟩ := vals_strs t
      obtain ⟨k, e⟩ := r
      exact ⟨(x, k) :: l, by rw [e, e1]; rfl, by rw [List.map_cons, e2]⟩
theorem strs_vals : ∀ (l : List (Str × Tok)), Vals ((l.map (·.1)).map V.str) (strValues l)
  | [] => .nil
  | p :: l => .cons ⟨p.2, rfl⟩ (strs_vals l)
/-- sep.join(words) -/
theorem mt_join : MtR X "str.join" (fun x vs H Q => ∃ (sep : Str) (D : Addr) (ws : List Str), x = .str sep ∧ vs = [.ref D] ∧ SqL X.K H D (ws.map V.str) ∧ JoinOk sep ws = true ∧ Q (.str (Txt.join sep ws)) H) := by
  intro pins s σ H x vs v us Q I rx rv h
  obtain ⟨sep, D, ws, rfl, rfl, hS, hok, q⟩ := h
  obtain ⟨t, rfl⟩ := rx
  obtain ⟨u, rfl, ru⟩ := rv.one
  cases ru
  obtain ⟨its, r, pl, hz⟩ := I.list hS
  obtain ⟨l, rfl, hl⟩ := vals_strs r
  exact SC.join pl.isList hl hok fun t' k => ⟨.str _, H, I.tok _, ⟨_, rfl⟩, q⟩
/-- text.split(sep) -/
theorem mt_split : MtR X "str.split" (fun x vs H Q => ∃ (a sep : Str), x = .str a ∧ vs = [.str sep] ∧ (sep.length == 0) = false ∧ a.length ≤ sizeLine ∧ (Txt.split a sep).length ≤ sizeLine ∧ ∀ D, H D = none → Q (.ref D) (upd H D (.lst ((Txt.split a sep).map V.str)))) := by
  intro pins s σ H x vs v us Q I rx rv h
  obtain ⟨a, sep, rfl, rfl, hy, hsz, hpz, q⟩ := h
  obtain ⟨t, rfl⟩ := rx
  obtain ⟨u, rfl, ru⟩ := rv.one
  obtain ⟨k, rfl⟩ := ru
  have fin : ∀ (l : List (Str × Tok)) (tk : Nat), l.map (·.1) = Txt.split a sep → EP X pins σ Q (.ref s.heap.objs.size) { s with toks := tk, heap := s.heap.push { cls := .type "list", data := .seq (strValues l).toArray } } := fun l tk e => by
    have hv := strs_vals l
    rw [e] at hv
    exact ⟨.ref _, _, I.lnew (t' := tk) hv (by rw [List.length_map]; exact hpz), rfl, q _ I.fresh⟩
  cases h1 : (decide (a.length < sep.length) || decide (Builtin.Str.strKind a < Builtin.Str.strKind sep)) with
  | true =>
    have e : Txt.split a sep = [a] := by unfold Txt.split; rw [if_pos h1]
    exact call_meets F.slot_str_split (typeIs_str _ _ _) F.entry_str_split (F.args_str_split_2 _ _) (meets_str_split_cannot_occur a sep t k h1) (fin [(a, t)] s.toks e.symm)
  | false =>
    cases h2 : (Builtin.Str.occurrences a sep 0 a.length (a.length + 1)).isEmpty with
    | true =>
      have e : Txt.split a sep = [a] := by unfold Txt.split; rw [if_neg (by rw [h1]; exact Bool.false_ne_true), if_pos h2]
      exact call_meets F.slot_str_split (typeIs_str _ _ _) F.entry_str_split (F.args_str_split_2 _ _) (meets_str_split_not_found a sep t k h1 hy h2) (fin [(a, t)] s.toks e.symm)
    | false =>
      have e : Txt.split a sep = Builtin.Str.partsBetween a (Builtin.Str.occurrences a sep 0 a.length (a.length + 1)) sep.length := by unfold Txt.split; rw [if_neg (by rw [h1]; exact Bool.false_ne_true), if_neg (by rw [h2]; exact Bool.false_ne_true)]
      rw [e] at hpz
      refine call_meets F.slot_str_split (typeIs_str _ _ _) F.entry_str_split (F.args_str_split_2 _ _) (meets_str_split_sep a sep t k h1 hy h2 hsz hpz) ?_
      rw [strsFrom_eq]
      exact fin (numbered s.toks _) _ ((numbered_texts _ _).trans e.symm)
/-- int(word) -/
theorem call_intT : CallR X (.type "int") (fun xs H Q => ∃ (x : Str) (n : Int), xs = [.str x] ∧ PySem.intText? x = some n ∧ x.length ≤ 640 ∧ Q (.int n) H) := by
  intro pins s σ H xs us Q I r h
  obtain ⟨x, n, rfl, hn, hl, q⟩ := h
  obtain ⟨u, rfl, ru⟩ := r.one
  obtain ⟨t, rfl⟩ := ru
  exact PySem.W.KIN.call_text hn hl ⟨.int n, H, I.tok _, ⟨_, rfl⟩, q⟩
end
end L2
end

section
set_option Elab.async false
set_option linter.all false
set_option maxRecDepth 100000
set_option maxHeartbeats 1000000
namespace L2
open PySem PySem.Spec PyProof.Rows
/-- one sign of a text -/
def sgn (x : Str) (i : Nat) : Str := ⟨#[x.cps.getD i 0]⟩
/-- the signs of a text, in their order -/
def Its (x : Str) : It := ⟨fun i _ => i < x.cps.size, fun i H v H' => H' = H ∧ v = .str (sgn x i), fun i _ => x.cps.size ≤ i⟩
theorem turn_str {P : Program} {w : World} {K : PySem.W.Frag} {tg : Expr} (it : Addr) (x : Str) (t : Tok) : Turn P w K tg (Its x) [it] it (fun i h => h.IsStrIter it "str_ascii_iterator" x t i) where
  mem := by simp
  obj := fun i h st b hb => by
    have e : b = it := by simpa using hb
    subst e
    obtain ⟨o, e, c, d⟩ := st
    exact ⟨o, e, fun v z => by rw [d] at z; cases z⟩
  keep := fun i h h' st k => by
    obtain ⟨o, e, r⟩ := st
    exact ⟨o, k it (by simp) o e, r⟩
  item := by
    intro X hP hw hK hc i pins s σ H E I hf st hg
    subst hP hw hK
    have hg' : i < x.cps.size := hg
    obtain ⟨f0, f1, f2, f3, f4, f5⟩ := hf it (by simp)
    refine wpAny_pyNext_ascii_item st (c := x.cps[i]) (by simp [hg']) fun h' st' sb => ?_
    have I1 : Inv X pins σ H { s with heap := h', toks := s.toks + 1 } := I.turned (t' := s.toks + 1) (fun b o hb e => (sb.2 b hb).trans e) f0 f1 f3 f4 f5
    obtain ⟨o, e, c, d⟩ := id st'
    have es : sgn x i = ⟨#[x.cps[i]]⟩ := by
      unfold sgn
      rw [Array.getD_eq_getD_getElem?, Array.getElem?_eq_getElem hg']
      rfl
    exact ⟨_, rfl, go_of (s := { s with heap := h', toks := s.toks + 1 }) e c d (by decide) ⟨.str (sgn x i), H, I1, ⟨s.toks, by rw [es]⟩, ⟨rfl, rfl⟩, st', fun b hb => (hf b hb).1⟩⟩
  done := by
    intro X hP hw hK hc i pins s σ H E I hf st hg
    subst hP hw hK
    have hg' : x.cps.size ≤ i := hg
    obtain ⟨f0, f1, f2, f3, f4, f5⟩ := hf it (by simp)
    exact wpAny_pyNext_ascii_end (I.ok.hd hc) st (by simp; omega) fun h' eb => ⟨rfl, I.turned (t' := s.toks) (fun b o hb e => eb b o hb e) f0 f1 f3 f4 f5⟩
  self := fun _ _ _ _ _ st h => wpAny_pyIter_striter_ascii st h
section
variable {X : Cx} {tg : Expr}
def iStr (tl : TE) : TI := fun σ H R => tl σ H fun v H1 => ∃ x : Str, v = .str x ∧ x.cps.all (· < 128) = true ∧ R (Its x) H1
theorem pi_str {l : Expr} {tl : TE} (hl : PE X l tl) : PI X tg l (iStr tl) := by
  intro pins s σ H R I h
  refine thn (hl pins s σ H _ I h) fun v s1 ⟨y, H1, I1, r1, q1⟩ => ?_
  obtain ⟨x, e, ha, q⟩ := q1
  subst e
  obtain ⟨t, rfl⟩ := r1
  refine wpAny_pyIter_ascii ha ?_
  refine ⟨s1.heap.objs.size, [s1.heap.objs.size], _, _, H1, rfl, I1.kept (t' := s1.toks) fun b o e => Heap.get?_push_of_some _ e, turn_str _ x t, ⟨_, Heap.get?_push_size _ rfl, rfl, rfl⟩, fun b hb => ?_, q⟩
  have e : b = s1.heap.objs.size := by simpa using hb
  subst e
  exact I1.fpOk (Nat.le_refl _) (I1.hok.fresh (Nat.le_refl _))
end
theorem src_str {x : Str} : Src (Its x) ((List.range x.cps.size).map fun i => V.str (sgn x i)) (fun _ => True) where
  go := fun i H _ hi => by
    show i < x.cps.size
    simpa using hi
  yld := fun i H v H' _ hi y => ⟨y.1, by
    have hi' : i < x.cps.size := by simpa using hi
    rw [List.getElem?_map, List.getElem?_range hi', y.2]; rfl⟩
  stop := fun H _ => by simp [Its]
end L2
end

section
set_option Elab.async false
set_option linter.all false
set_option maxRecDepth 100000
set_option maxHeartbeats 1000000
namespace Tx
open PySem PySem.W
/-! ### words with blanks between, and numbers as words -/
def sp : Str := ⟨#[32]⟩
abbrev cs (x : Str) : List Nat := x.cps.toList
theorem cs_inj {a b : Str} (h : cs a = cs b) : a = b := Str.ext' (Array.toList_inj.mp h)
theorem cs_app (a b : Str) : cs (a ++ b) = cs a ++ cs b := by
  unfold cs
  rw [Str.cps_append, Array.toList_append]
theorem cs_join (x y : Str) (r : List Str) : cs (Str.join sp (x :: y :: r)) = cs x ++ 32 :: cs (Str.join sp (y :: r)) := by
  show cs (x ++ sp ++ Str.join sp (y :: r)) = _
  rw [cs_app, cs_app, List.append_assoc]; rfl
theorem glued_join (ws : List Str) : Txt.join sp ws = Str.join sp ws := StrLaws.glued_eq_join sp ws
/-! numbers -/
def nt (n : Int) : Str := Str.ofString (toString n)
theorem cs_nt (m : Nat) : cs (nt (m : Int)) = (Nat.toDigits 10 m).map Char.toNat := KIN.signs_num m
theorem dig_all (m : Nat) : ∀ c ∈ cs (nt (m : Int)), 48 ≤ c ∧ c ≤ 57 := fun c hc => by
  rw [cs_nt] at hc
  obtain ⟨ch, hch, e⟩ := List.mem_map.mp hc
  have r := PyProof.Rows.digit_range (Nat.isDigit_of_mem_toDigits (by decide) (by decide) hch)
  rw [← e]
  exact r
theorem dig_len {m k : Nat} (hk : 1 ≤ k) (h : m < 10 ^ k) : 1 ≤ (nt (m : Int)).length ∧ (nt (m : Int)).length ≤ k := by
  have e : (nt (m : Int)).length = (Nat.toDigits 10 m).length := by
    have := congrArg List.length (cs_nt m)
    rw [List.length_map, Array.length_toList] at this
    exact this
  rw [e]
  exact ⟨by first | exact PySem.toDigits_len_ge 10 m | exact PyProof.Rows.tDigits_len_ge 10 m | exact toDigits_len_ge 10 m, PyProof.Rows.digits10_le hk h⟩
def figs : Str := "0123456789"
/-- the constants of the program -/
structure Cn (mg : Str → Option Value) : Prop where
  fig : ∃ t, mg "FIGURES" = some (.str figs t)
  mf : ∃ t, mg "MOST_FIGURES" = some (.int 400 t)
  ln : ∃ t, mg "LEAST_NUMBERS" = some (.int 3 t)
  mn : ∃ t, mg "MOST_NUMBERS" = some (.int 6 t)
  mt : ∃ t, mg "MOST_TIMES" = some (.int 1000 t)
end Tx
end

section
set_option Elab.async false
set_option linter.all false
set_option maxRecDepth 100000
set_option maxHeartbeats 1000000
/-! any words, as numbers or not -/
namespace Tx
open PySem L2 PySem.W
def isD (c : Nat) : Bool := decide (48 ≤ c ∧ c ≤ 57)
def isNumB (w : Str) : Bool := decide (1 ≤ w.length) && decide (w.length ≤ 400) && decide ((cs w).headD 48 ≠ 48) && (cs w).all isD
def numN (w : Str) : Nat := if isNumB w = true then PySem.NumText.digitsVal (cs w) else 0
theorem len_cs (w : Str) : (cs w).length = w.length := Array.length_toList
theorem fold_dig : ∀ (l : List Nat) (a : Nat), (∀ c ∈ l, 48 ≤ c ∧ c ≤ 57) → a ≤ l.foldl (fun acc c => acc * 10 + (c - 48)) a ∧ l.foldl (fun acc c => acc * 10 + (c - 48)) a < (a + 1) * 10 ^ l.length
  | [], a, _ => by simp
  | c :: l, a, h => by
    have hc := h c List.mem_cons_self
    obtain ⟨h1, h2⟩ := fold_dig l (a * 10 + (c - 48)) fun d hd => h d (List.mem_cons_of_mem _ hd)
    rw [List.foldl_cons, List.length_cons, Nat.pow_succ]
    refine ⟨by omega, Nat.lt_of_lt_of_le h2 ?_⟩
    have h3 : a * 10 + (c - 48) + 1 ≤ (a + 1) * 10 := by omega
    have h4 := Nat.mul_le_mul_right (10 ^ l.length) h3
    rw [Nat.mul_assoc, Nat.mul_comm 10] at h4
    exact h4
theorem num_val {w : Str} (h : isNumB w = true) : PySem.intText? w = some ((numN w : Nat) : Int) ∧ 0 < numN w ∧ numN w < 10 ^ 400 := by
  have e : numN w = PySem.NumText.digitsVal (cs w) := by unfold numN; rw [if_pos h]
  unfold isNumB at h
  simp only [Bool.and_eq_true, decide_eq_true_eq] at h
  obtain ⟨⟨⟨h1, h2⟩, h3⟩, h4⟩ := h
  have hl := len_cs w
  have hd : ∀ c ∈ cs w, 48 ≤ c ∧ c ≤ 57 := fun c hc => of_decide_eq_true (List.all_eq_true.mp h4 c hc)
  have hne : cs w ≠ [] := fun z => by rw [z] at hl; simp at hl; omega
  rw [e]
  refine ⟨intText_digits hd hne (by omega), ?_, ?_⟩
  · cases hq : cs w with
    | nil => exact absurd hq hne
    | cons c l =>
      rw [hq] at h3 hd
      have hc := hd c List.mem_cons_self
      have h3' : c ≠ 48 := h3
      have := (fold_dig l (0 * 10 + (c - 48)) fun d hd' => hd d (List.mem_cons_of_mem _ hd')).1
      show 0 < (c :: l).foldl (fun acc c => acc * 10 + (c - 48)) 0
      rw [List.foldl_cons]
      omega
  · have := (fold_dig (cs w) 0 hd).2
    rw [Nat.zero_add, Nat.one_mul] at this
    exact Nat.lt_of_lt_of_le this (Nat.pow_le_pow_right (by decide) (by omega))
theorem num_zero {w : Str} : numN w = 0 ↔ isNumB w = false := by
  constructor
  · intro h
    cases e : isNumB w with
    | false => rfl
    | true => have := (num_val e).2.1; omega
  · intro h
    unfold numN
    rw [if_neg (by rw [h]; exact Bool.false_ne_true)]
theorem figs_all : ∀ c ∈ List.range 128, (!(Builtin.Str.occurrences figs ⟨#[c]⟩ 0 figs.length 1).isEmpty) = isD c := by decide +kernel
theorem figs_iff {c : Nat} (h : c < 128) : (!(Builtin.Str.occurrences figs ⟨#[c]⟩ 0 figs.length 1).isEmpty) = isD c := figs_all c (List.mem_range.mpr h)
/-- a text of ordinary signs, not too long -/
structure Wd (n : Nat) (w : Str) : Prop where
  len : w.length ≤ n
  asc : ∀ c ∈ cs w, c < 128
theorem Wd.mono {m n : Nat} {w : Str} (h : Wd m w) (hm : m ≤ n) : Wd n w := ⟨Nat.le_trans h.len hm, h.asc⟩
theorem Wd.all {n : Nat} {w : Str} (h : Wd n w) : w.cps.all (· < 128) = true := by
  rw [Array.all_eq_true']
  intro c hc
  exact decide_eq_true (h.asc c (by simpa using hc))
theorem Wd.app {m n : Nat} {a b : Str} (ha : Wd m a) (hb : Wd n b) : Wd (m + n) (a ++ b) := by
  refine ⟨?_, fun c hc => ?_⟩
  · have := congrArg List.length (cs_app a b)
    rw [List.length_append, len_cs, len_cs, len_cs] at this
    have := ha.len
    have := hb.len
    omega
  · rw [cs_app] at hc
    rcases List.mem_append.mp hc with z | z
    · exact ha.asc c z
    · exact hb.asc c z
/-- the words of a text lie in it -/
theorem in_join (z : Str) : ∀ {ws : List Str} {w : Str}, w ∈ ws → (∀ c ∈ cs w, c ∈ cs (Str.join z ws)) ∧ w.length ≤ (Str.join z ws).length
  | [x], w, h => by
    rw [List.mem_singleton.mp h]
    exact ⟨fun c hc => hc, Nat.le_refl _⟩
  | x :: y :: r, w, h => by
    have e : Str.join z (x :: y :: r) = x ++ z ++ Str.join z (y :: r) := rfl
    have el := congrArg List.length (cs_app (x ++ z) (Str.join z (y :: r)))
    have el2 := congrArg List.length (cs_app x z)
    simp only [List.length_append, len_cs] at el el2
    rw [e]
    rcases List.mem_cons.mp h with q | q
    · subst q
      refine ⟨fun c hc => ?_, by omega⟩
      rw [cs_app, cs_app]
      exact List.mem_append_left _ (List.mem_append_left _ hc)
    · obtain ⟨h1, h2⟩ := in_join z q
      refine ⟨fun c hc => ?_, by omega⟩
      rw [cs_app]
      exact List.mem_append_right _ (h1 c hc)
theorem join_few : ∀ ws : List Str, ws.length ≤ (Str.join sp ws).length + 1
  | [] => Nat.zero_le _
  | [x] => by show 1 ≤ _; omega
  | x :: y :: r => by
    have ih := join_few (y :: r)
    have e := congrArg List.length (cs_join x y r)
    simp only [List.length_append, List.length_cons, len_cs] at e
    rw [List.length_cons] at ih ⊢
    rw [List.length_cons]
    omega
theorem split_wd {n : Nat} {x : Str} (h : Wd n x) : (∀ w ∈ Txt.split x sp, Wd n w) ∧ (Txt.split x sp).length ≤ n + 1 := by
  have e : Str.join sp (Txt.split x sp) = x := StrLaws.join_split _ _
  refine ⟨fun w hw => ?_, ?_⟩
  · obtain ⟨h1, h2⟩ := in_join sp hw
    rw [e] at h1 h2
    exact ⟨Nat.le_trans h2 h.len, fun c hc => h.asc c (h1 c hc)⟩
  · have := join_few (Txt.split x sp)
    rw [e] at this
    have := h.len
    omega
theorem join_wd {n : Nat} {z : Str} (hz : Wd 2 z) : ∀ {ws : List Str}, (∀ w ∈ ws, Wd n w) → Wd (ws.length * (n + 2)) (Str.join z ws)
  | [], _ => ⟨Nat.zero_le _, fun c hc => nomatch hc⟩
  | [x], h => by
    have := h x (List.mem_singleton.mpr rfl)
    exact (show Wd (1 * (n + 2)) x from this.mono (by omega))
  | x :: y :: r, h => by
    have ih := join_wd hz (ws := y :: r) fun w hw => h w (List.mem_cons_of_mem _ hw)
    have hx := h x List.mem_cons_self
    have := (hx.app hz).app ih
    refine (show Wd ((r.length + 2) * (n + 2)) (x ++ z ++ Str.join z (y :: r)) from this.mono ?_)
    rw [List.length_cons, Nat.add_mul r.length 2, Nat.add_mul r.length 1]
    omega
theorem rep_wd {n : Nat} {x : Str} (h : Wd n x) : Wd ((n + 2) * (n + 2) + n) (Txt.replace x sp ⟨#[32, 32]⟩) := by
  unfold Txt.replace
  split
  · exact h.mono (Nat.le_add_left _ _)
  · have hz : Wd 2 (⟨#[32, 32]⟩ : Str) := ⟨Nat.le_refl 2, fun c hc => by
      have : c ∈ [32, 32] := hc
      simp at this
      omega⟩
    have hp : ∀ w ∈ Builtin.Str.partsBetween x (Builtin.Str.occurrences x sp 0 x.length (x.length + 1)) sp.length, Wd n w := fun w hw => by
      have e : Builtin.Str.glued sp (Builtin.Str.partsBetween x (Builtin.Str.occurrences x sp 0 x.length (x.length + 1)) sp.length) = x := StrLaws.glued_between_self x sp (x.length + 1)
      rw [StrLaws.glued_eq_join] at e
      obtain ⟨h1, h2⟩ := in_join sp hw
      rw [e] at h1 h2
      exact ⟨Nat.le_trans h2 h.len, fun c hc => h.asc c (h1 c hc)⟩
    have hl : (Builtin.Str.partsBetween x (Builtin.Str.occurrences x sp 0 x.length (x.length + 1)) sp.length).length ≤ n + 2 := by
      have h1 := join_few (Builtin.Str.partsBetween x (Builtin.Str.occurrences x sp 0 x.length (x.length + 1)) sp.length)
      have e : Builtin.Str.glued sp (Builtin.Str.partsBetween x (Builtin.Str.occurrences x sp 0 x.length (x.length + 1)) sp.length) = x := StrLaws.glued_between_self x sp (x.length + 1)
      rw [StrLaws.glued_eq_join] at e
      rw [e] at h1
      have := h.len
      omega
    rw [StrLaws.glued_eq_join]
    exact (join_wd hz hp).mono (Nat.le_trans (Nat.mul_le_mul_right _ hl) (Nat.le_add_right _ _))
end Tx
end

section
set_option Elab.async false
set_option linter.all false
set_option maxRecDepth 100000
set_option maxHeartbeats 1000000
namespace L2
open PySem PySem.Spec PyProof.Rows
theorem fold_nine : ∀ (k : Nat) (acc : Array Nat), ((List.replicate k (#[57] : Array Nat)).foldl (· ++ ·) acc).toList = acc.toList ++ List.replicate k 57
  | 0, acc => by simp
  | k + 1, acc => by
    rw [List.replicate_succ, List.foldl_cons, fold_nine k, List.replicate_succ]
    simp
section
variable {X : Cx}
/-- "9" * n -/
theorem op_mul9 : OpR X (binaryOp .Mult) (fun x y H Q => ∃ n : Nat, x = .str "9" ∧ y = .int (n : Int) ∧ 2 ≤ n ∧ n ≤ 1000 ∧ ∀ z : Str, z.cps.toList = List.replicate n 57 → Q (.str z) H) := by
  intro pins s σ H x y v u Q I rx ry h
  obtain ⟨n, rfl, rfl, h2, h1000, q⟩ := h
  obtain ⟨t, rfl⟩ := rx
  obtain ⟨t', rfl⟩ := ry
  have hs : sizeLine = 16777216 := rfl
  have l1 : (Str.ofString "9").length = 1 := rfl
  have tn : ((n : Int)).toNat = n := Int.toNat_natCast n
  have a1 : (decide ((n : Int) < -(2 ^ 63 : Int)) || decide ((n : Int) ≥ 2 ^ 63)) = false := by
    rw [decide_eq_false (show ¬ ((n : Int) < -(2 ^ 63 : Int)) from fun z => absurd (Int.lt_trans z (by decide : -(2 ^ 63 : Int) < 0)) (by omega)), decide_eq_false (show ¬ ((n : Int) ≥ 2 ^ 63) from fun z => absurd (Int.le_trans z (by omega : (n : Int) ≤ 1000)) (by decide))]
    rfl
  have one : (((n : Int) == 1) || (Str.ofString "9").length == 0) = false := by
    rw [l1]
    simp
    omega
  refine P.mul_str a1 (fun _ _ => ?_) (fun _ _ => ?_) ?_
  · rw [l1]
    have : (1 : Int) ≤ (2 ^ 63 - 1) / (n : Int) := by
      rw [Int.le_ediv_iff_mul_le (by omega)]
      exact Int.le_trans (by omega : 1 * (n : Int) ≤ 1000) (by decide)
    omega
  · rw [l1, tn]
    unfold Builtin.Str.tooLong
    exact decide_eq_false (by omega)
  · rw [if_neg (by omega), one]
    have e : ((List.replicate ((n : Int)).toNat (Str.ofString "9").cps).foldl (· ++ ·) #[]).toList = List.replicate n 57 := by
      rw [tn]
      exact (fold_nine n #[]).trans (by simp)
    refine ⟨?_, ?_⟩
    · show ((List.replicate ((n : Int)).toNat (Str.ofString "9").cps).foldl (· ++ ·) #[]).size ≤ sizeLine
      rw [← Array.length_toList, e, List.length_replicate]
      omega
    · exact ⟨.str _, H, I.tok _, ⟨_, rfl⟩, q _ e⟩
/-- x + a, x.replace(a, b), c -/
theorem pa_text {i : Nat} {x a b c : Str} {k1 k2 k3 k4 : Nat} {p1 p2 p3 p4 p5 p6 p7 p8 p9 : Pos} (hN : X.N[i]? = some x) (hv : Vis X.env.scope x) (hdb : (x == ("__debug__" : Str)) = false) (hcd : (x == ("__classdict__" : Str)) = false)
    (hbase : attributeBase (.Name x p4) "replace" X.env (eval (.Name x p4) X.env) = eval (.Name x p4) X.env := by rfl)
    (hfew : ((backTo p8 (starEach [.Constant (.str a) k2 p6, .Constant (.str b) k3 p7] X.env)).all (fun x => !x.1) && (backToKw p8 (keywordEach [] X.env)).all (fun x => x.1.isSome)
      && decide (([.Constant (.str a) k2 p6, .Constant (.str b) k3 p7] : List Expr).length + ([] : List Keyword).length + (if ([] : List Keyword).isEmpty then 0 else 1) < 30)) = true := by rfl)
    (hline : (p5.endLine == p8.line) = true := by rfl) :
    PA X [.BinOp (.Name x p1) .Add (.Constant (.str a) k1 p2) p3, .Call (.Attribute (.Name x p4) "replace" p5) [.Constant (.str a) k2 p6, .Constant (.str b) k3 p7] [] p8, .Constant (.str c) k4 p9]
      (fun σ H Q => ∃ tx : Str, σ[i]? = some (some (.str tx)) ∧ tx.length + a.length ≤ sizeLine ∧ tx.length + (tx.length + 1) * b.length ≤ 16777216 ∧ (a == b) = false ∧ Q [.str (tx ++ a), .str (Txt.replace tx a b), .str c] H) := by
  intro pos pins s σ H Q I h
  obtain ⟨tx, e, hz, hb, hab, q⟩ := h
  have name : ∀ {s0 : Shared} {p : Pos} {E : Value → Shared → Prop} {P : Value → Shared → Prop}, Inv X pins σ H s0 → (∀ t, P (.str tx t) s0) → wpAny (model X.prog X.w) X.A (eval (.Name x p) X.env) P E s0 := fun {s0 p E P} I0 hP => by
    obtain ⟨m, hn, hl⟩ := I0.loc
    obtain ⟨u, r, l⟩ := hl i x (.str tx) hN e hv
    obtain ⟨t, rfl⟩ := r
    have fin := hP t
    rcases l with ⟨hk, hm⟩ | ⟨hk, c, hc, hcell⟩
    · exact wpAny_Name (wpAny_loadName_local I0.ok.kind hk hn hm fin) hdb
    · rcases hk with hk | hk
      · exact wpAny_Name (wpAny_loadName_cell I0.ok.kind hk hc hcell fin) hdb
      · exact wpAny_Name (wpAny_loadName_free I0.ok.kind hk hc hcell fin hcd) hdb
  have last : ∀ (s2 : Shared) (v : Value), Inv X pins σ H s2 → 0 < s2.toks → RelV (.str (tx ++ a)) v → wpAny (model X.prog X.w) X.A (spliced (backTo pos (starEach [.Call (.Attribute (.Name x p4) "replace" p5) [.Constant (.str a) k2 p6, .Constant (.str b) k3 p7] [] p8, .Constant (.str c) k4 p9] X.env)))
      (fun vs s3 => AP X pins σ Q (v :: vs) s3) X.xe s2 := fun s2 v I2 h2 rv => by
    refine spliced_more ?_
    refine wpAny_Call_method_late hbase hfew hline rfl (name I2 fun t3 => ?_)
    refine ⟨"str", "str.replace", PySem.F.plainAttrs_str, PySem.F.slot_str_replace, PySem.F.type_str_replace, typeIs_str _ _ _, fun _ z => (nomatch z), ?_⟩
    refine Calls.callWith_builtin rfl (Calls.evalArgs_plain ?_)
    show wpAny _ _ (spliced ((false, eval (.Constant (.str a) k2 p6) X.env) :: backTo p8 (starEach [.Constant (.str b) k3 p7] X.env))) _ _ _
    refine Calls.spliced_cons (Calls.Constant_str ?_)
    show wpAny _ _ (spliced ((false, eval (.Constant (.str b) k3 p7) X.env) :: backTo p8 (starEach [] X.env))) _ _ _
    refine Calls.spliced_cons (Calls.Constant_str ?_)
    refine Calls.spliced_nil ?_
    refine SC.replace (by show s2.toks ≠ 0; omega) (by show s2.toks + 1 ≠ 0; omega) (by show s2.toks ≠ s2.toks + 1; omega) hab hb fun t' kk => ?_
    refine spliced_more (Calls.Constant_str ?_)
    refine Calls.spliced_nil ⟨[.str (tx ++ a), .str (Txt.replace tx a b), .str c], H, ?_, .cons rv (.cons ⟨_, rfl⟩ (.cons ⟨_, rfl⟩ .nil)), q⟩
    exact I2.un (h' := s2.heap) (t' := _) Un.refl I2.hok
  refine spliced_more ?_
  refine wpAny_BinOp (name I fun t => Calls.Constant_str ?_)
  have I1 : Inv X pins σ H { s with toks := s.toks + 1 } := I.tok _
  refine P.add_str ?_
  split
  · rename_i h0
    have ee : tx ++ a = a := by
      have z : tx.cps = #[] := Array.eq_empty_of_size_eq_zero (by simpa [Str.length] using h0)
      show Str.append tx a = a
      cases a; simp [Str.append, z]
    exact last _ _ I1 (Nat.succ_pos _) (by rw [ee]; exact ⟨_, rfl⟩)
  · split
    · rename_i h0
      have ee : tx ++ a = tx := by
        have z : a.cps = #[] := Array.eq_empty_of_size_eq_zero (by simpa [Str.length] using h0)
        show Str.append tx a = tx
        cases tx; simp [Str.append, z]
      exact last _ _ I1 (Nat.succ_pos _) (by rw [ee]; exact ⟨_, rfl⟩)
    · refine ⟨?_, last _ _ (I.tok _) (Nat.succ_pos _) ⟨_, rfl⟩⟩
      have el := congrArg List.length (Tx.cs_app tx a)
      simp only [List.length_append, Tx.len_cs] at el
      omega
end
/-- for over the signs of a text -/
theorem for_str {x : Str} {g : TG} {tb : TS} {D : Ends} {σ : St} {H : Hp} (Pv : Nat → St → Hp → Prop) (h0 : Pv 0 σ H)
    (hs : ∀ i σ H, i < x.cps.size → Pv i σ H → g (.str (sgn x i)) σ H fun σ2 H2 => tb { D with nx := Pv (i + 1), ct := Pv (i + 1), bk := D.nx } σ2 H2) (hd : ∀ σ H, Pv x.cps.size σ H → D.nx σ H) :
    ∃ W : Nat → Nat → St → Hp → Prop, (∃ m, W 0 m σ H) ∧ ∀ i m σ H, W i m σ H →
      ((Its x).stop i H ∧ D.nx σ H) ∨ ((Its x).go i H ∧ ∃ N : St → Hp → Prop, (∀ σ' H', N σ' H' → ∃ m', m' < m ∧ W (i + 1) m' σ' H') ∧ ∀ v H', (Its x).yld i H v H' → g v σ H' fun σ2 H2 => tb { D with nx := N, ct := N, bk := D.nx } σ2 H2) := by
  refine ⟨fun i m σ H => m = x.cps.size - i ∧ i ≤ x.cps.size ∧ Pv i σ H, ⟨x.cps.size, by simp, Nat.zero_le _, h0⟩, ?_⟩
  rintro i m σ H ⟨rfl, hi, p⟩
  by_cases hlt : i < x.cps.size
  · refine .inr ⟨hlt, Pv (i + 1), fun σ' H' p' => ⟨x.cps.size - (i + 1), by omega, rfl, hlt, p'⟩, fun v H' y => ?_⟩
    obtain ⟨e, y⟩ := y
    subst e y
    exact hs i σ _ hlt p
  · have e : i = x.cps.size := by omega
    subst e
    exact .inl ⟨Nat.le_refl _, hd σ H p⟩
/-- a comprehension whose elements are plain values; an element that refuses has not the word P -/
theorem comp_scalP {J : It} {xs : List V} {G : Hp → Prop} {cv : St} {te : TE} {H1 : Hp} {Q : VK} (S : Src J xs G) (gm : ∀ H', Same H1 H' → G H') (hz : xs.length ≤ sizeLine) (f : V → V) (P : V → Prop)
    (he : ∀ x H' (Q' : VK), x ∈ xs → Same H1 H' → (P x → ∀ H5, Same H' H5 → Q' (f x) H5) → te (some x :: cv) H' Q')
    (q : (∀ x ∈ xs, P x) → ∀ D H', H1 D = Option.none → Same H1 H' → H' D = some (.lst (xs.map f)) → Q (.ref D) H') :
    CompR J H1 cv tNoIf te Q := by
  intro D hD
  refine ⟨fun i m ys H2 => i ≤ xs.length ∧ m = xs.length - i ∧ ys = (xs.take i).map f ∧ H2 D = some (.lst ys) ∧ Same H1 H2 ∧ ∀ x ∈ xs.take i, P x, ⟨_, Nat.zero_le _, rfl, rfl, upd_same, same_new hD _, fun x hx => by rw [List.take_zero] at hx; exact nomatch hx⟩, ?_⟩
  rintro i m ys H2 ⟨hi, rfl, rfl, hD2, g2, hP⟩
  by_cases hlt : i < xs.length
  · refine .inr ⟨S.go i H2 (gm _ g2) hlt, fun x H3 y3 => ?_⟩
    obtain ⟨rfl, hx⟩ := S.yld i H2 x H3 (gm _ g2) hlt y3
    show te (some x :: cv) H3 _
    refine he x H3 _ (List.mem_of_getElem? hx) g2 fun px H5 g5 => ⟨g5 _ _ hD2, ?_, xs.length - (i + 1), by omega, hlt, rfl, ?_, upd_same, fun b o e => ?_, fun y hy => ?_⟩
    · rw [List.length_map, List.length_take]; omega
    · rw [List.take_succ, hx, List.map_append]; rfl
    · rw [upd_ne (ne_of_none e hD)]; exact g5 _ _ (g2 _ _ e)
    · rw [List.take_succ, hx] at hy
      rcases List.mem_append.mp hy with z | z
      · exact hP y z
      · rw [show y = x by simpa using z]; exact px
  · have e : i = xs.length := by omega
    subst e
    rw [List.take_length] at hD2 hP
    exact .inl ⟨S.stop H2 (gm _ g2), q hP D H2 hD g2 hD2⟩
end L2
end

section
set_option Elab.async false
set_option linter.all false
set_option maxRecDepth 100000
set_option maxHeartbeats 4000000
namespace Z
open PySem L2
def top (i : Nat) : Stmt := PySem.Challenge.pw_sumtimes_k14_read.main.body.getD i (.Pass ⟨0, 0, 0, 0⟩)
abbrev sProduct : Stmt := top 7
abbrev sSquareSum : Stmt := top 8
abbrev sHolds : Stmt := top 9
abbrev sMustHold : Stmt := top 10
abbrev sIsNumber : Stmt := top 17
abbrev sNumberOf : Stmt := top 18
abbrev sRead : Stmt := top 19
abbrev sCellAt : Stmt := top 21
abbrev sWhole : Stmt := top 22
abbrev sLProduct : Stmt := top 23
abbrev sNear : Stmt := top 24
abbrev sIsRow : Stmt := top 25
abbrev sAlike : Stmt := top 26
abbrev sRootBy : Stmt := top 27
abbrev sDrawn : Stmt := top 28
abbrev sOdd : Stmt := top 29
abbrev sTurned : Stmt := top 30
abbrev sLNumber : Stmt := top 31
abbrev sDue : Stmt := top 32
abbrev sTried : Stmt := top 33
abbrev sLaw : Stmt := top 34
end Z
namespace Z
open PySem L2
section
variable {P : Program} {w : World} {K : PySem.W.Frag} {mg : Str → Option Value} {base : Heap} {f : Addr} {fd : FuncData}
theorem scProduct : FnScope ["numbers", "result", "number"] ["numbers"] (defScope sProduct) := ⟨rfl, rfl, rfl, by decide +kernel, rfl, by decide +kernel, by decide +kernel⟩
theorem ok_product (F : Fun K "product" "product" sProduct f fd) : FnOk P w K mg base CX0 1 f fd ["numbers"] (spProd K) := by
  refine F.ok scProduct (fun vs H Q E h => ?_) (fun cdv A outer s H vs Q E hr h => ?_)
  · obtain ⟨a, ns, B, rfl, _⟩ := h
    rfl
  obtain ⟨a, ns, B, rfl, hS, hb, hz, q⟩ := h
  refine ⟨_, pss_cons (ps_set (i := 1) scProduct.nd rfl (Or.inl rfl) pe_int) (pss_cons (ps_for PassesOwn.never rfl (pi_list (pv 0)) (pg_name (i := 2) scProduct.nd rfl (Or.inl rfl))
    (pss_one (ps_set (i := 1) scProduct.nd rfl (Or.inl rfl) (pe_op op_mulB (pv 1) (pv 2))))) (pss_one (ps_ret (pv 1)))), ?_⟩
  refine ⟨_, rfl, a, rfl, ⟨_, hS⟩, for_list (xs := ns.map V.int) (fun i σ' H' => H' = H ∧ ∃ o, σ' = [some (.ref a), some (.int (Mir.prodL (ns.take i))), o]) ⟨rfl, _, rfl⟩ (fun i σ' H' _ h => by rw [h.1]; exact hS) (fun i x σ' H' hx h => ?_) (fun σ' H' h => ?_)⟩
  · obtain ⟨rfl, o, rfl⟩ := h
    rw [List.getElem?_map] at hx
    cases en : ns[i]? with
    | none => rw [en] at hx; cases hx
    | some n =>
      rw [en] at hx
      cases hx
      have hil : i < ns.length := (List.getElem?_eq_some_iff.mp en).1
      have h1 := Mir.prod_bd (n := B) (l := ns.take i) fun y hy => hb y (List.mem_of_mem_take hy)
      refine ⟨_, rfl, _, rfl, _, _, rfl, rfl, mul_ok h1 (hb n (List.mem_of_getElem? en)) ?_, rfl, some (.int n), ?_⟩
      · rw [List.length_take, Nat.min_eq_left (Nat.le_of_lt hil)]
        have : i * B ≤ ns.length * B := Nat.mul_le_mul_right _ (Nat.le_of_lt hil)
        rw [Nat.succ_mul] at hz
        omega
      · rw [List.take_succ, en]
        show _ = [_, some (V.int (Mir.prodL (ns.take i ++ [n]))), _]
        rw [Mir.prodL_snoc]
        rfl
  · obtain ⟨rfl, o, rfl⟩ := h
    rw [List.length_map, List.take_length]
    exact ⟨_, rfl, q⟩
theorem scSquareSum : FnScope ["numbers"] ["numbers"] (defScope sSquareSum) := ⟨rfl, rfl, rfl, by decide +kernel, rfl, by decide +kernel, by decide +kernel⟩
def sqV : V → V
  | .int n => .int (n * n)
  | v => v
theorem sq_map (ns : List Int) : (ns.map V.int).map sqV = (ns.map fun x => x * x).map V.int := by
  rw [List.map_map, List.map_map]; rfl
theorem ok_square_sum (T : Bl mg) (F : Fun K "square_sum" "square_sum" sSquareSum f fd) : FnOk P w K mg base CX0 1 f fd ["numbers"] (spSq K) := by
  refine F.ok scSquareSum (fun vs H Q E h => ?_) (fun cdv A outer s H vs Q E hr h => ?_)
  · obtain ⟨a, ns, B, rfl, _⟩ := h
    rfl
  obtain ⟨a, ns, B, rfl, hS, hb, hz, hl, q⟩ := h
  refine ⟨_, pss_one (ps_ret (pe_callB (call_sumL rfl) rfl T.sum PyProof.Rows.boot_sum (pa_cons (pe_comp (caps := []) ⟨rfl, rfl, rfl, rfl, by decide +kernel, rfl⟩ rfl (pi_list (pv 0)) (fun _ _ _ => pif_nil) (fun _ _ _ => pe_op op_mulB (pv 0) (pv 0))) pa_nil))), ?_⟩
  refine ⟨_, rfl, a, rfl, ⟨_, hS⟩, comp_scal src_list hS (fun H' g => g.seq hS) ?_ sqV (fun x H' Q' hx g k => ?_) (fun D H' _ g hD => ?_)⟩
  · rw [List.length_map]; exact Nat.le_of_lt (small1000 hl)
  · obtain ⟨n, hn, rfl⟩ := List.mem_map.mp hx
    exact ⟨_, rfl, _, rfl, _, _, rfl, rfl, mul_ok (hb n hn) (hb n hn) (by omega), k H' (Same.refl _)⟩
  · rw [sq_map] at hD
    exact ⟨D, _, rfl, SqL.of hD, q H' g⟩
/-! ### holds -/
theorem scHolds : FnScope ["times", "row"] ["times", "row"] (defScope sHolds) := ⟨rfl, rfl, rfl, by decide +kernel, rfl, by decide +kernel, by decide +kernel⟩
def ltV : V → V
  | .int n => .bl (decide (n < 1))
  | v => v
theorem lt_map (ns : List Int) : (ns.map V.int).map ltV = (ns.map fun x => decide (x < 1)).map V.bl := by
  rw [List.map_map, List.map_map]; rfl
theorem ok_holds (T : Bl mg) (F : Fun K "holds" "holds" sHolds f fd) (Dsq : Df P w K mg base 1 "square_sum" ["numbers"] (spSq K)) (Dpr : Df P w K mg base 1 "product" ["numbers"] (spProd K)) :
    FnOk P w K mg base CX0 2 f fd ["times", "row"] (spRow K) := by
  refine F.ok scHolds (fun vs H Q E h => ?_) (fun cdv A outer s H vs Q E hr h => ?_)
  · obtain ⟨t, a, ns, B, rfl, _⟩ := h
    rfl
  obtain ⟨t, a, ns, B, rfl, hS, ht, hb, hz2, hz, h0, h64, q⟩ := h
  refine ⟨_, pss_cons (ps_if (pt_val (pe_callB (call_anyL rfl) rfl T.any PyProof.Rows.boot_any (pa_cons (pe_comp (caps := []) ⟨rfl, rfl, rfl, rfl, by decide +kernel, rfl⟩ rfl (pi_list (pv 1)) (fun _ _ _ => pif_nil) (fun _ _ _ => pe_cmpR op_lt (pv 0) pe_int (nomark _))) pa_nil)))
      (pss_one (ps_ret pe_bl)) pss_nil)
    (pss_cons (ps_if (pt_cmpR (op_neL hr.units) (pv 1) (pe_callB call_sortedL rfl T.sorted PyProof.Rows.boot_sorted (pa_cons (pv 1) pa_nil)) (nomark _)) (pss_one (ps_ret pe_bl)) pss_nil)
    (pss_one (ps_ret (pe_cmpR op_eq (pe_df Dsq hr (Nat.le_refl _) rfl (pa_cons (pv 1) pa_nil)) (pe_op op_mulB (pv 0) (pe_df Dpr hr (Nat.le_refl _) rfl (pa_cons (pv 1) pa_nil))) (nomark _))))), ?_⟩
  refine ⟨_, rfl, a, rfl, ⟨_, hS⟩, comp_scal src_list hS (fun H' g => g.seq hS) ?_ ltV (fun x H' Q' hx g k => ?_) (fun D H1 _ g1 hD => ?_)⟩
  · rw [List.length_map]; exact Nat.le_of_lt (small1000 (by omega))
  · obtain ⟨n, hn, rfl⟩ := List.mem_map.mp hx
    exact ⟨_, rfl, _, _, rfl, rfl, k H' (Same.refl _)⟩
  rw [lt_map] at hD
  refine ⟨D, _, rfl, SqL.of hD, _, rfl, iteD (fun c => ?_) (fun c => ?_)⟩
  · have := q H1 g1
    rw [Mir.isRow_any c] at this
    exact this
  rw [Mir.any_map_id] at c
  refine ⟨_, rfl, _, rfl, a, ns, rfl, g1.seq hS, h64, fun l hl => ?_⟩
  have g2 := g1.trans (same_new hl (.lst ((Mir.srt ns).map V.int)))
  refine ⟨a, l, ns, Mir.srt ns, rfl, rfl, g2.seq hS, SqL.of upd_same, _, rfl, iteD (fun c2 => ?_) (fun c2 => ?_)⟩
  · have hne : ¬ ns = Mir.srt ns := fun e => by rw [decide_eq_true e] at c2; cases c2
    have := q _ g2
    rw [Mir.isRow_unsorted hne] at this
    exact this
  have he : ns = Mir.srt ns := by
    by_cases e : ns = Mir.srt ns
    · exact e
    · rw [decide_eq_false e] at c2; cases c2
  refine ⟨_, rfl, a, ns, B, rfl, g2.seq hS, hb, hz2, by omega, fun H3 g3 => ?_⟩
  have g4 := g2.trans g3
  have h1 := Mir.prod_bd hb
  refine ⟨_, rfl, _, rfl, a, ns, B, rfl, g4.seq hS, hb, by omega, _, _, rfl, rfl, mul_ok ht h1 ?_, rfl, ?_⟩
  · rw [Nat.succ_mul] at hz; omega
  · have := q H3 g4
    rw [Mir.isRow_eq c he] at this
    rw [dec_int]
    rw [show (Mir.sqs ns == t * Mir.prodL ns) = decide (Mir.sqs ns = t * Mir.prodL ns) from Bool.beq_eq_decide_eq _ _]
    exact this
/-! ### a cell -/
theorem scCellAt : FnScope ["script", "k"] ["script", "k"] (defScope sCellAt) := ⟨rfl, rfl, rfl, by decide +kernel, rfl, by decide +kernel, by decide +kernel⟩
theorem ok_cell_at (T : Bl mg) (F : Fun K "_law_cell_at" "_law_cell_at" sCellAt f fd) : FnOk P w K mg base CX0 1 f fd ["script", "k"] (spCell K) := by
  refine F.ok scCellAt (fun vs H Q E h => ?_) (fun cdv A outer s H vs Q E hr h => ?_)
  · obtain ⟨a, ns, k, rfl, _⟩ := h
    rfl
  obtain ⟨a, ns, k, rfl, hS, h0, q⟩ := h
  obtain ⟨j, rfl⟩ : ∃ j : Nat, k = (j : Int) := ⟨k.toNat, by omega⟩
  refine ⟨_, pss_cons (ps_if (pt_cmpR op_lt (pv 1) (pe_callB call_len_seq rfl T.len PySem.boot_len (pa_cons (pv 0) pa_nil)) (nomark _)) (pss_one (ps_ret (pe_ix ix_list (pv 0) (pv 1) (fun _ _ => rfl)))) pss_nil) (pss_one (ps_ret pe_int)), ?_⟩
  refine ⟨_, rfl, _, rfl, a, _, rfl, .inl hS, _, _, rfl, rfl, _, rfl, iteD (fun c => ?_) (fun c => ?_)⟩
  · have c' : (j : Int) < (((ns.map V.int).length : Nat) : Int) := of_decide_eq_true c
    rw [List.length_map] at c'
    exact ⟨_, rfl, _, rfl, a, _, _, _, rfl, rfl, hS, atI_ints (by omega), q⟩
  · have c' : ¬ (j : Int) < (((ns.map V.int).length : Nat) : Int) := of_decide_eq_false c
    rw [List.length_map] at c'
    have e : ns.getD (Int.toNat (j : Int)) 0 = 0 := by
      rw [List.getD_eq_getElem?_getD, List.getElem?_eq_none (by omega)]; rfl
    rw [e] at q
    exact q
/-! ### a whole number -/
theorem scWhole : FnScope ["found"] ["found"] (defScope sWhole) := ⟨rfl, rfl, rfl, by decide +kernel, rfl, by decide +kernel, by decide +kernel⟩
theorem ok_whole (T : Bl mg) (F : Fun K "_law_whole" "_law_whole" sWhole f fd) : FnOk P w K mg base CX0 1 f fd ["found"] spWhole := by
  refine F.ok scWhole (fun vs H Q E h => ?_) (fun cdv A outer s H vs Q E hr h => ?_)
  · obtain ⟨i, rfl, _⟩ := h
    rfl
  obtain ⟨i, rfl, q⟩ := h
  refine ⟨_, pss_one (ps_ret (pe_and (pe_callB call_isinst rfl T.isinstance PyProof.Rows.boot_isinstance (pa_cons (pv 0) (pa_cons (pe_bltn rfl T.int PyProof.Rows.boot_int (v := .ty "int") rfl) pa_nil)))
    (pe_one (pe_not (pe_callB call_isinst rfl T.isinstance PyProof.Rows.boot_isinstance (pa_cons (pv 0) (pa_cons (pe_bltn rfl T.bool PyProof.Rows.boot_bool (v := .ty "bool") rfl) pa_nil))))))), ?_⟩
  refine ⟨_, rfl, _, _, _, _, rfl, .int i, kit_int_int K, _, rfl, iteT ?_⟩
  exact ⟨_, rfl, _, _, _, _, rfl, .int i, kit_int_bool K, _, rfl, q⟩
/-! ### the law's product -/
theorem scLProduct : FnScope ["numbers", "made", "number"] ["numbers"] (defScope sLProduct) := ⟨rfl, rfl, rfl, by decide +kernel, rfl, by decide +kernel, by decide +kernel⟩
theorem ok_lproduct (F : Fun K "_law_product" "_law_product" sLProduct f fd) : FnOk P w K mg base CX0 1 f fd ["numbers"] (spProd K) := by
  refine F.ok scLProduct (fun vs H Q E h => ?_) (fun cdv A outer s H vs Q E hr h => ?_)
  · obtain ⟨a, ns, B, rfl, _⟩ := h
    rfl
  obtain ⟨a, ns, B, rfl, hS, hb, hz, q⟩ := h
  refine ⟨_, pss_cons (ps_set (i := 1) scLProduct.nd rfl (Or.inl rfl) pe_int) (pss_cons (ps_for PassesOwn.never rfl (pi_list (pv 0)) (pg_name (i := 2) scLProduct.nd rfl (Or.inl rfl))
    (pss_one (ps_set (i := 1) scLProduct.nd rfl (Or.inl rfl) (pe_op op_mulB (pv 1) (pv 2))))) (pss_one (ps_ret (pv 1)))), ?_⟩
  refine ⟨_, rfl, a, rfl, ⟨_, hS⟩, for_list (xs := ns.map V.int) (fun i σ' H' => H' = H ∧ ∃ o, σ' = [some (.ref a), some (.int (Mir.prodL (ns.take i))), o]) ⟨rfl, _, rfl⟩ (fun i σ' H' _ h => by rw [h.1]; exact hS) (fun i x σ' H' hx h => ?_) (fun σ' H' h => ?_)⟩
  · obtain ⟨rfl, o, rfl⟩ := h
    rw [List.getElem?_map] at hx
    cases en : ns[i]? with
    | none => rw [en] at hx; cases hx
    | some n =>
      rw [en] at hx
      cases hx
      have hil : i < ns.length := (List.getElem?_eq_some_iff.mp en).1
      have h1 := Mir.prod_bd (n := B) (l := ns.take i) fun y hy => hb y (List.mem_of_mem_take hy)
      refine ⟨_, rfl, _, rfl, _, _, rfl, rfl, mul_ok h1 (hb n (List.mem_of_getElem? en)) ?_, rfl, some (.int n), ?_⟩
      · rw [List.length_take, Nat.min_eq_left (Nat.le_of_lt hil)]
        have : i * B ≤ ns.length * B := Nat.mul_le_mul_right _ (Nat.le_of_lt hil)
        rw [Nat.succ_mul] at hz
        omega
      · rw [List.take_succ, en]
        show _ = [_, some (V.int (Mir.prodL (ns.take i ++ [n]))), _]
        rw [Mir.prodL_snoc]
        rfl
  · obtain ⟨rfl, o, rfl⟩ := h
    rw [List.length_map, List.take_length]
    exact ⟨_, rfl, q⟩
/-! ### a neighbour -/
theorem scNear : FnScope ["times", "row", "place", "others"] ["times", "row", "place"] (defScope sNear) := ⟨rfl, rfl, rfl, by decide +kernel, rfl, by decide +kernel, by decide +kernel⟩
theorem ok_near (T : Bl mg) (F : Fun K "_law_near" "_law_near" sNear f fd) (Dpr : Df P w K mg base 1 "_law_product" ["numbers"] (spProd K)) : FnOk P w K mg base CX0 2 f fd ["times", "row", "place"] (spNear K) := by
  refine F.ok scNear (fun vs H Q E h => ?_) (fun cdv A outer s H vs Q E hr h => ?_)
  · obtain ⟨t, a, ns, p, B, rfl, _⟩ := h
    rfl
  obtain ⟨t, a, ns, p, B, rfl, hS, ht, hb, h0, hp, h6, hz, q⟩ := h
  obtain ⟨k, rfl⟩ : ∃ k : Nat, p = (k : Int) := ⟨p.toNat, by omega⟩
  have hk : k < ns.length := by omega
  refine ⟨_, pss_cons (ps_set (i := 3) scNear.nd rfl (Or.inl rfl) (pe_op op_cat (pe_slice sl_list (pv 1) po_none (po_some (pv 2))) (pe_slice sl_list (pv 1) (po_some (pe_op op_add (pv 2) pe_int)) po_none)))
    (pss_one (ps_ret (pe_callB call_sortedL rfl T.sorted PyProof.Rows.boot_sorted (pa_cons (pe_op op_cat (pv 3) (pe_lst (pa_cons (pe_op op_sub (pe_op op_mulB (pv 0) (pe_df Dpr hr (Nat.le_refl _) rfl (pa_cons (pv 3) pa_nil))) (pe_ix ix_list (pv 1) (pv 2) (fun _ _ => rfl))) pa_nil))) pa_nil)))), ?_⟩
  have hml : (ns.map V.int).length = ns.length := List.length_map _
  have l1 := cutV_length (ns.map V.int) none (some (k : Int))
  have l2 := cutV_length (ns.map V.int) (some ((k : Int) + 1)) none
  refine ⟨_, rfl, _, rfl, _, rfl, a, _, rfl, hS, fun p1 h1 => ?_⟩
  have g1 := same_new h1 (.lst (cutV (ns.map V.int) none (some (k : Int))))
  refine ⟨_, rfl, _, rfl, _, _, rfl, rfl, _, rfl, a, _, rfl, g1.seq hS, fun p2 h2 => ?_⟩
  have g2 := same_new h2 (.lst (cutV (ns.map V.int) (some ((k : Int) + 1)) none))
  refine ⟨p1, p2, _, _, rfl, rfl, g2 _ _ upd_same, upd_same, Nat.le_of_lt (small1000 (by omega)), fun p3 h3 => ?_⟩
  rw [cut_erase ns hk]
  have g3 := same_new h3 (.lst ((ns.eraseIdx k).map V.int))
  have g := (g1.trans g2).trans g3
  have he : (ns.eraseIdx k).length ≤ 5 := by rw [List.length_eraseIdx, if_pos hk]; omega
  have hbe : Mir.Bd B (ns.eraseIdx k) := fun y hy => hb y (Mir.mem_eraseIdx hy)
  have hB : ((ns.eraseIdx k).length + 1) * B ≤ 6 * B := Nat.mul_le_mul_right _ (by omega)
  have hB' : (ns.eraseIdx k).length * B ≤ 5 * B := Nat.mul_le_mul_right _ he
  refine ⟨_, rfl, _, rfl, _, rfl, p3, ns.eraseIdx k, B, rfl, SqL.of upd_same, hbe, by omega, _, _, rfl, rfl, mul_ok ht (Mir.prod_bd hbe) (by omega), _, rfl, _, rfl, a, _, _, _, rfl, rfl, g.seq hS, atI_ints hk, _, _, rfl, rfl,
    (by show 1 ≤ sizeLine; decide), fun p4 h4 => ?_⟩
  have g4 := same_new h4 (.lst [.int (t * Mir.prodL (ns.eraseIdx k) - ns.getD k 0)])
  have el : ((ns.eraseIdx k).map V.int).length = (ns.eraseIdx k).length := List.length_map _
  refine ⟨p3, p4, _, _, rfl, rfl, g4 _ _ upd_same, upd_same, Nat.le_of_lt (small1000 (by rw [el]; show (ns.eraseIdx k).length + 1 ≤ 1000; omega)), fun p5 h5 => ?_⟩
  have g5 := same_new h5 (.lst ((ns.eraseIdx k).map V.int ++ [.int (t * Mir.prodL (ns.eraseIdx k) - ns.getD k 0)]))
  refine ⟨p5, ns.eraseIdx k ++ [t * Mir.prodL (ns.eraseIdx k) - ns.getD k 0], rfl, SqL.of ?_, ?_, fun l hl => ?_⟩
  · rw [upd_same, List.map_append]; rfl
  · rw [List.length_append, List.length_singleton]; omega
  · have gg := (g.trans g4).trans g5
    exact q l _ (gg.none hl) (gg.trans (same_new hl _)) upd_same
/-! ### a row, by the law -/
theorem scIsRow : FnScope ["times", "row"] ["times", "row"] (defScope sIsRow) := ⟨rfl, rfl, rfl, by decide +kernel, rfl, by decide +kernel, by decide +kernel⟩
theorem ok_is_row (T : Bl mg) (F : Fun K "_law_is_row" "_law_is_row" sIsRow f fd) (Dpr : Df P w K mg base 1 "_law_product" ["numbers"] (spProd K)) : FnOk P w K mg base CX0 2 f fd ["times", "row"] (spRow K) := by
  refine F.ok scIsRow (fun vs H Q E h => ?_) (fun cdv A outer s H vs Q E hr h => ?_)
  · obtain ⟨t, a, ns, B, rfl, _⟩ := h
    rfl
  obtain ⟨t, a, ns, B, rfl, hS, ht, hb, hz2, hz, h0, h64, q⟩ := h
  refine ⟨_, pss_cons (ps_if (PW.pt (pw_or (pt_cmpR op_lt (pe_callB (call_minL rfl) rfl T.min PyProof.Rows.boot_min (pa_cons (pv 1) pa_nil)) pe_int (nomark _))
        (pw_or1 (pt_cmpR (op_neL hr.units) (pe_callB call_sortedL rfl T.sorted PyProof.Rows.boot_sorted (pa_cons (pv 1) pa_nil)) (pv 1) (nomark _))))) (pss_one (ps_ret pe_bl)) pss_nil)
    (pss_one (ps_ret (pe_cmpR op_eq (pe_callB (call_sumL rfl) rfl T.sum PyProof.Rows.boot_sum (pa_cons (pe_comp (caps := []) ⟨rfl, rfl, rfl, rfl, by decide +kernel, rfl⟩ rfl (pi_list (pv 1)) (fun _ _ _ => pif_nil) (fun _ _ _ => pe_op op_mulB (pv 0) (pv 0))) pa_nil))
      (pe_op op_mulB (pv 0) (pe_df Dpr hr (Nat.le_refl _) rfl (pa_cons (pv 1) pa_nil))) (nomark _)))), ?_⟩
  refine ⟨_, rfl, a, ns, rfl, hS, h0, fun m hm hmin => ⟨_, _, rfl, rfl, _, rfl, iteD (fun c => ?_) (fun c => ?_)⟩⟩
  · have c' : m < 1 := of_decide_eq_true c
    have := q H (Same.refl _)
    rw [Mir.isRow_min hm c'] at this
    exact iteT this
  have c' : ¬ m < 1 := of_decide_eq_false c
  have hany := Mir.any_min hmin c'
  refine ⟨_, rfl, a, ns, rfl, hS, h64, fun l hl => ?_⟩
  have g2 := same_new hl (.lst ((Mir.srt ns).map V.int))
  refine ⟨_, rfl, l, a, Mir.srt ns, ns, rfl, rfl, SqL.of upd_same, g2.seq hS, _, rfl, iteD (fun c2 => ?_) (fun c2 => ?_)⟩
  · have hne : ¬ ns = Mir.srt ns := fun e => by rw [decide_eq_true e.symm] at c2; cases c2
    have := q _ g2
    rw [Mir.isRow_unsorted hne] at this
    exact this
  have he : ns = Mir.srt ns := by
    by_cases e : Mir.srt ns = ns
    · exact e.symm
    · rw [decide_eq_false e] at c2; cases c2
  refine ⟨_, rfl, a, rfl, ⟨_, g2.seq hS⟩, comp_scal src_list (g2.seq hS) (fun H' g => g.seq (g2.seq hS)) ?_ sqV (fun x H' Q' hx g k => ?_) (fun D H3 _ g3 hD => ?_)⟩
  · rw [List.length_map]; exact Nat.le_of_lt (small1000 (by omega))
  · obtain ⟨n, hn, rfl⟩ := List.mem_map.mp hx
    exact ⟨_, rfl, _, rfl, _, _, rfl, rfl, mul_ok (hb n hn) (hb n hn) (by omega), k H' (Same.refl _)⟩
  rw [sq_map] at hD
  have g4 := g2.trans g3
  have h1 := Mir.prod_bd hb
  refine ⟨D, _, rfl, SqL.of hD, _, rfl, _, rfl, a, ns, B, rfl, g4.seq hS, hb, by omega, _, _, rfl, rfl, mul_ok ht h1 ?_, rfl, ?_⟩
  · rw [Nat.succ_mul] at hz; omega
  · have := q H3 g4
    rw [Mir.isRow_eq hany he] at this
    rw [dec_int]
    rw [show ((ns.map fun x => x * x).sum == t * Mir.prodL ns) = decide (Mir.sqs ns = t * Mir.prodL ns) from Bool.beq_eq_decide_eq _ _]
    exact this
/-! ### the nine roots -/
theorem scRootBy : FnScope ["cell", "some"] ["cell"] (defScope sRootBy) := ⟨rfl, rfl, rfl, by decide +kernel, rfl, by decide +kernel, by decide +kernel⟩
theorem rb_body {X : Cx} {es1 es2 : List Expr} {q0 q1 q2 q3 q4 q5 q6 q7 q8 q9 q10 q11 q12 q13 : Pos} {k0 : Nat} {c : Int} {H : Hp} {Q : VK} {nx : St → Hp → Prop} (nd : X.N.Nodup) (h0 : X.N[0]? = some ("cell" : Str)) (h1 : X.N[1]? = some ("some" : Str))
    (v0 : Vis X.env.scope "cell") (v1 : Vis X.env.scope "some") (l1 : Loc X.env.scope "some") (hf : X.fn "some" = true ∨ X.env.scope.names.lookup ("some" : Str) = some .local) (d1 : decPs es1 = some Mir.tab1) (d2 : decPs es2 = some Mir.tab2)
    (q : ∀ v H', Same H H' → Pr H' v (Mir.rootOf c) → Q v H') :
    ∃ t, PSs X [.Assign [.Name "some" q0] (.List es1 q1) q2, .Assign [.Name "some" q3] (.BinOp (.Name "some" q4) .Add (.List es2 q5) q6) q7,
      .Return (some (.Subscript (.Name "some" q8) (.BinOp (.Name "cell" q9) .Mod (.Constant (.int 9) k0 q10) q11) q12)) q13] t ∧ t { nx := nx, rt := Q } [some (.int c), none] H := by
  refine ⟨_, pss_cons (ps_set (i := 1) nd h1 l1 (pe_lst (pa_pairs (ps := Mir.tab1) d1 (by decide))) rfl hf) (pss_cons (ps_set (i := 1) nd h1 l1 (pe_op op_cat (pv 1 h1 v1) (pe_lst (pa_pairs (ps := Mir.tab2) d2 (by decide)))) rfl hf)
    (pss_one (ps_ret (pe_ix ix_list (pv 1 h1 v1) (pe_op op_mod (pv 0 h0 v0) pe_int) (fun _ _ => rfl))))), ?_⟩
  intro vs1 H1 g1 r1
  have e1 : vs1.length = 5 := r1.length
  refine ⟨Nat.le_of_lt (small1000 (by omega)), fun l1 h1 => ?_⟩
  have g2 := same_new h1 (.lst vs1)
  refine ⟨_, rfl, fun vs2 H2 g3 r2 => ?_⟩
  have e2 : vs2.length = 4 := r2.length
  refine ⟨Nat.le_of_lt (small1000 (by omega)), fun l2 h2 => ?_⟩
  have g4 := same_new h2 (.lst vs2)
  refine ⟨l1, l2, _, _, rfl, rfl, g4 _ _ (g3 _ _ upd_same), upd_same, Nat.le_of_lt (small1000 (by omega)), fun l3 h3 => ?_⟩
  have g5 := same_new h3 (.lst (vs1 ++ vs2))
  have ga := (g2.trans (g3.trans (g4.trans g5)))
  have pr : Paired (Pr (upd (upd H2 l2 (.lst vs2)) l3 (.lst (vs1 ++ vs2)))) (vs1 ++ vs2) Mir.tab := paired_app (Paired.pr ga r1) (Paired.pr (g4.trans g5) r2)
  obtain ⟨v, hv, hp⟩ := paired_get pr (Mir.root_at c)
  have hm := Int.emod_nonneg c (show (9 : Int) ≠ 0 by decide)
  have hat : atI (vs1 ++ vs2) (c % 9) = some v := by
    rw [show c % 9 = (((c % 9).toNat : Nat) : Int) by omega]
    exact atI_nat hv
  refine ⟨_, rfl, _, rfl, _, _, rfl, rfl, (by show (0 : Int) < 9; decide), l3, _, _, v, rfl, rfl, SqL.of upd_same, hat, ?_⟩
  exact q v _ (g1.trans ga) hp
theorem ok_root_by (F : Fun K "_law_root_by" "_law_root_by" sRootBy f fd) : FnOk P w K mg base CX0 1 f fd ["cell"] spRootBy := by
  refine F.ok scRootBy (fun vs H Q E h => ?_) (fun cdv A outer s H vs Q E hr h => ?_)
  · obtain ⟨c, rfl, _⟩ := h
    rfl
  obtain ⟨c, rfl, q⟩ := h
  exact rb_body scRootBy.nd rfl rfl (Or.inl rfl) (Or.inl rfl) (Or.inl rfl) (Or.inl rfl) (by rfl) (by rfl) q
/-! ### the drawn row -/
theorem scDrawn : FnScope ["script", "root", "row", "k", "far"] ["script"] (defScope sDrawn) := ⟨rfl, rfl, rfl, by decide +kernel, rfl, by decide +kernel, by decide +kernel⟩
theorem ok_drawn (T : Bl mg) (F : Fun K "_law_drawn" "_law_drawn" sDrawn f fd) (Dc : Df P w K mg base 1 "_law_cell_at" ["script", "k"] (spCell K)) (Dr : Df P w K mg base 1 "_law_root_by" ["cell"] spRootBy)
    (Dn : Df P w K mg base 2 "_law_near" ["times", "row", "place"] (spNear K)) : FnOk P w K mg base CX0 3 f fd ["script"] (spDrawn K) := by
  refine F.ok scDrawn (fun vs H Q E h => ?_) (fun cdv A outer s H vs Q E hr h => ?_)
  · obtain ⟨a, ns, rfl, _⟩ := h
    rfl
  obtain ⟨a, ns, rfl, hS, q⟩ := h
  refine ⟨_, pss_cons (ps_set (i := 1) scDrawn.nd rfl (Or.inl rfl) (pe_df Dr hr (by decide) rfl (pa_cons (pe_df Dc hr (by decide) rfl (pa_cons (pv 0) (pa_cons pe_int pa_nil))) pa_nil)))
    (pss_cons (ps_set (i := 2) scDrawn.nd rfl (Or.inl rfl) (pe_callTy call_list_of rfl T.list PyProof.Rows.boot_list (pa_cons (pe_ix ix_tup (pv 1) pe_int (fun _ _ => rfl)) pa_nil)))
    (pss_cons (ps_for PassesOwn.never rfl (pi_range1 rfl T.range (pa_cons (pe_op op_mod (pe_df Dc hr (by decide) rfl (pa_cons (pv 0) (pa_cons pe_int pa_nil))) pe_int) pa_nil)) (pg_name (i := 3) scDrawn.nd rfl (Or.inl rfl))
      (pss_cons (ps_set (i := 4) scDrawn.nd rfl (Or.inl rfl) (pe_df Dn hr (by decide) rfl (pa_cons (pe_ix ix_tup (pv 1) pe_int (fun _ _ => rfl)) (pa_cons (pv 2) (pa_cons (pe_op op_mod (pe_df Dc hr (by decide) rfl (pa_cons (pv 0) (pa_cons (pe_op op_add pe_int (pv 3)) pa_nil)))
          (pe_callB call_len_seq rfl T.len PySem.boot_len (pa_cons (pv 2) pa_nil))) pa_nil)))))
        (pss_one (ps_if (pt_cmpR op_gt (pe_callB (call_sumL rfl) rfl T.sum PyProof.Rows.boot_sum (pa_cons (pv 4) pa_nil)) (pe_callB (call_sumL rfl) rfl T.sum PyProof.Rows.boot_sum (pa_cons (pv 2) pa_nil)) (nomark _)) (pss_one (ps_set (i := 2) scDrawn.nd rfl (Or.inl rfl) (pv 4))) pss_nil))))
    (pss_one (ps_ret (pe_tup (pa_cons (pe_ix ix_tup (pv 1) pe_int (fun _ _ => rfl)) (pa_cons (pv 2) pa_nil))))))), ?_⟩
  refine ⟨_, rfl, a, ns, 0, rfl, hS, by decide, Mir.cell ns 0, rfl, fun v H1 g1 pr => ?_⟩
  obtain ⟨p0, b0, rfl, ht0, hb0⟩ := pr
  refine ⟨_, rfl, p0, _, _, _, rfl, rfl, SqT.of ht0, tup1 _ _, b0, _, rfl, .inl (SqL.of hb0), fun r0 hr0 => ?_⟩
  have g2 := same_new hr0 (.lst ((Mir.rootOf (Mir.cell ns 0)).2.map V.int))
  have gs := g1.trans g2
  have hmod : (0 : Int) ≤ Mir.cell ns 1 % 7 ∧ Mir.cell ns 1 % 7 < 7 := by omega
  refine ⟨_, rfl, a, ns, 1, rfl, gs.seq hS, by decide, _, _, rfl, rfl, (by show (0 : Int) < 7; decide), _, rfl, by show -(2 ^ 62) ≤ Mir.cell ns 1 % 7; omega, by show Mir.cell ns 1 % 7 < 2 ^ 62; omega, ?_⟩
  have htt := Mir.drawnT_lt ns
  refine for_range (n := Mir.drawnN ns) (fun i σ' H' => i ≤ Mir.drawnN ns ∧ ∃ r o3 o4, σ' = [some (.ref a), some (.ref p0), some (.ref r), o3, o4] ∧ Same H1 H' ∧ H1 r = none ∧ Ls H' r (Mir.walk (Mir.drawnT ns) ns (Mir.rootOf (Mir.cell ns 0)).2 i))
    ⟨Nat.zero_le _, r0, none, none, rfl, g2, hr0, upd_same⟩ (fun i σ' H' hi h => ?_) (fun σ' H' h => ?_)
  · obtain ⟨hi', r, o3, o4, rfl, g3, hrn, hl⟩ := h
    have fine := Mir.walk_fine (ns := ns) htt (Mir.root_fine (Mir.cell ns 0)) i
    generalize hw : Mir.walk (Mir.drawnT ns) ns (Mir.rootOf (Mir.cell ns 0)).2 i = row at hl fine
    have hlo := fine.lo
    have hhi := fine.hi
    have hbn : Mir.bn i ≤ 70311 := Mir.bn6 ▸ Mir.bn_mono (Nat.le_trans hi' (Mir.drawnN_le ns))
    have hp0 := Int.emod_nonneg (Mir.cell ns (2 + i)) (show (row.length : Int) ≠ 0 by omega)
    have hp1 := Int.emod_lt_of_pos (Mir.cell ns (2 + i)) (show (0 : Int) < row.length by omega)
    have ec : (2 + (0 + (i : Int))).toNat = 2 + i := by omega
    have hlen : ((row.map V.int).length : Int) = (row.length : Int) := by rw [List.length_map]
    refine ⟨_, rfl, p0, _, _, _, rfl, rfl, SqT.of (g3 _ _ ht0), tup0 _ _, _, rfl, _, rfl, _, rfl, _, _, rfl, rfl, a, ns, 2 + (0 + (i : Int)), rfl, (g1.trans g3).seq hS, by omega, _, rfl, r, _, rfl, .inl hl.sq, _, _, rfl, rfl, ?_, ?_⟩
    · show (0 : Int) < ((row.map V.int).length : Int); rw [hlen]; omega
    dsimp only
    rw [ec, hlen]
    refine ⟨Mir.drawnT ns, r, row, _, Mir.bn i, rfl, hl.sq, by omega, fine.bd, hp0, hp1, hhi, by omega, fun r2 H2 hn2 g4 hl2 => ?_⟩
    have e2 : Mir.near (Mir.drawnT ns) row (Mir.cell ns (2 + i) % (row.length : Int)).toNat = Mir.near (Mir.drawnT ns) row (Mir.cell ns (2 + i) % (row.length : Int)).toNat := rfl
    have hw2 : Mir.walk (Mir.drawnT ns) ns (Mir.rootOf (Mir.cell ns 0)).2 (i + 1) = Mir.stepR (Mir.drawnT ns) ns row i := by rw [← hw]; rfl
    refine ⟨_, rfl, r2, _, rfl, hl2.sq, _, rfl, r, row, rfl, (Ls.sq (g4 _ _ hl)), _, _, rfl, rfl, _, rfl, iteD (fun c => ?_) (fun c => ?_)⟩
    · have c' : row.sum < (Mir.near (Mir.drawnT ns) row (Mir.cell ns (2 + i) % (row.length : Int)).toNat).sum := of_decide_eq_true c
      refine ⟨_, rfl, hi, r2, _, _, rfl, g3.trans g4, g3.none hn2, ?_⟩
      rw [hw2, Mir.stepR, if_pos c']
      exact hl2
    · have c' : ¬ row.sum < (Mir.near (Mir.drawnT ns) row (Mir.cell ns (2 + i) % (row.length : Int)).toNat).sum := of_decide_eq_false c
      refine ⟨hi, r, _, _, rfl, g3.trans g4, hrn, ?_⟩
      rw [hw2, Mir.stepR, if_neg c']
      exact g4 _ _ hl
  · obtain ⟨_, r, o3, o4, rfl, g3, hrn, hl⟩ := h
    refine ⟨_, rfl, p0, _, _, _, rfl, rfl, SqT.of (g3 _ _ ht0), tup0 _ _, _, rfl, (by show 2 ≤ sizeLine; decide), fun p hp => ?_⟩
    exact q p r _ (g1.none hrn) ((g1.trans g3).trans (same_new hp _)) upd_same (same_new hp _ _ _ hl)
/-! ### alike -/
theorem scAlike : FnScope ["found", "due", "k"] ["found", "due"] (defScope sAlike) := ⟨rfl, rfl, rfl, by decide +kernel, rfl, by decide +kernel, by decide +kernel⟩
theorem ok_alike (T : Bl mg) (F : Fun K "_law_alike" "_law_alike" sAlike f fd) (Dw : Df P w K mg base 1 "_law_whole" ["found"] spWhole) : FnOk P w K mg base CX0 2 f fd ["found", "due"] (spAlike K) := by
  refine F.ok scAlike (fun vs H Q E h => ?_) (fun cdv A outer s H vs Q E hr h => ?_)
  · obtain ⟨a, b, ns, ms, rfl, _⟩ := h
    rfl
  obtain ⟨a, b, ns, ms, rfl, hL, hT, hz, q⟩ := h
  have hS : SqL K H a (ns.map V.int) := SqL.of hL
  refine ⟨_, pss_cons (ps_if (PW.pt (pw_or (pt_not (pt_val (pe_callB call_isinst rfl T.isinstance PyProof.Rows.boot_isinstance (pa_cons (pv 0) (pa_cons (pe_bltn rfl T.list PyProof.Rows.boot_list (v := .ty "list") rfl) pa_nil)))))
        (pw_or1 (pt_cmpR op_ne (pe_callB call_len_seq rfl T.len PySem.boot_len (pa_cons (pv 0) pa_nil)) (pe_callB call_len_seq rfl T.len PySem.boot_len (pa_cons (pv 1) pa_nil)) (nomark _))))) (pss_one (ps_ret pe_bl)) pss_nil)
    (pss_cons (ps_for PassesOwn.never rfl (pi_range1 rfl T.range (pa_cons (pe_callB call_len_seq rfl T.len PySem.boot_len (pa_cons (pv 1) pa_nil)) pa_nil)) (pg_name (i := 2) scAlike.nd rfl (Or.inl rfl))
      (pss_one (ps_if (PW.pt (pw_or (pt_not (pt_val (pe_df Dw hr (by decide) rfl (pa_cons (pe_ix ix_list (pv 0) (pv 2) (fun _ _ => rfl)) pa_nil)))) (pw_or1 (pt_cmpR op_ne (pe_ix ix_list (pv 0) (pv 2) (fun _ _ => rfl)) (pe_ix ix_list (pv 1) (pv 2) (fun _ _ => rfl)) (nomark _)))))
        (pss_one (ps_ret pe_bl)) pss_nil)))
    (pss_one (ps_ret pe_bl))), ?_⟩
  refine ⟨_, rfl, _, _, _, _, rfl, .lst hL, kit_list_list K, _, rfl, iteF ?_⟩
  refine ⟨_, rfl, a, _, rfl, .inl hS, _, rfl, b, _, rfl, .inl hT, rfl, _, rfl, iteD (fun c => ?_) (fun c => ?_)⟩
  · have hne : ¬ ns = ms := by
      rintro rfl
      rw [decide_eq_true rfl] at c
      cases c
    rw [decide_eq_false hne] at q
    exact q
  have hlen : ns.length = ms.length := by
    have c' := len_of_ne c
    rw [List.length_map, List.length_map] at c'
    exact c'
  refine ⟨_, rfl, b, _, rfl, .inl hT, _, rfl, by rw [List.length_map]; omega, by rw [List.length_map]; omega, for_range (n := (Int.ofNat (ms.map V.int).length).toNat) (fun i σ' H' => H' = H ∧ (∃ o, σ' = [some (.ref a), some (.ref b), o]) ∧ ∀ j, j < i → ns.getD j 0 = ms.getD j 0) ⟨rfl, ⟨_, rfl⟩, fun j hj => absurd hj (Nat.not_lt_zero _)⟩
    (fun i σ' H' hi h => ?_) (fun σ' H' h => ?_)⟩
  · obtain ⟨rfl, ⟨o, rfl⟩, hall⟩ := h
    have hi' : i < ms.length := by
      have : i < (ms.map V.int).length := hi
      rwa [List.length_map] at this
    rw [Int.zero_add]
    refine ⟨_, rfl, _, rfl, a, _, _, _, rfl, rfl, hS, atI_ints (by omega), _, rfl, _, rfl, iteF ?_⟩
    refine ⟨_, rfl, _, rfl, a, _, _, _, rfl, rfl, hS, atI_ints (by omega), _, rfl, _, rfl, b, _, _, _, rfl, rfl, hT, atI_ints hi', rfl, _, rfl, iteD (fun c2 => ?_) (fun c2 => ?_)⟩
    · have hne : ¬ ns = ms := by
        rintro rfl
        rw [decide_eq_true rfl] at c2
        cases c2
      rw [decide_eq_false hne] at q
      exact q
    · refine ⟨rfl, ⟨_, rfl⟩, fun j hj => ?_⟩
      rcases Nat.lt_or_ge j i with h | h
      · exact hall j h
      · have : j = i := by omega
        subst this
        exact int_of_ne c2
  · obtain ⟨rfl, ⟨o, rfl⟩, hall⟩ := h
    have : ns = ms := same_lists hlen fun j hj => hall j (by show j < (ms.map V.int).length; rw [List.length_map]; exact hj)
    rw [decide_eq_true this] at q
    exact q
end
end Z
end

section
set_option Elab.async false
set_option linter.all false
set_option maxRecDepth 100000
set_option maxHeartbeats 4000000
namespace Z
open PySem L2
section
variable {P : Program} {w : World} {K : PySem.W.Frag} {mg : Str → Option Value} {base : Heap} {f : Addr} {fd : FuncData}
/-! ### whether a word is a number, any word -/
def spNumG : Sp := fun vs H Q _ => ∃ w : Str, vs = [.str w] ∧ Tx.Wd 13173268 w ∧ ∀ H', Same H H' → Q (.bl (Tx.isNumB w)) H'
theorem scIsNumber : FnScope ["word"] ["word"] (defScope sIsNumber) := ⟨rfl, rfl, rfl, by decide +kernel, rfl, by decide +kernel, by decide +kernel⟩
theorem sgn_at {x : Str} {i : Nat} (h : i < x.cps.size) : sgn x i = ⟨#[(Tx.cs x)[i]'(by rw [Array.length_toList]; exact h)]⟩ := by
  unfold sgn
  rw [Array.getD_eq_getD_getElem?, Array.getElem?_eq_getElem h]
  simp
theorem isNum_short {w : Str} (h : ¬ (1 ≤ w.length ∧ w.length ≤ 400)) : Tx.isNumB w = false := by
  unfold Tx.isNumB
  by_cases h1 : 1 ≤ w.length
  · rw [decide_eq_true h1, decide_eq_false (fun z => h ⟨h1, z⟩)]; rfl
  · rw [decide_eq_false h1]; rfl
theorem isNum_mid {w : Str} {c : Nat} {r : List Nat} (h1 : 1 ≤ w.length) (h2 : w.length ≤ 400) (hc : Tx.cs w = c :: r) : Tx.isNumB w = (decide (c ≠ 48) && (Tx.cs w).all Tx.isD) := by
  unfold Tx.isNumB
  rw [decide_eq_true h1, decide_eq_true h2, hc]
  rfl
theorem head_at {w : Str} {c : Nat} {r : List Nat} (hc : Tx.cs w = c :: r) : w.cps[(0 : Int).toNat]? = some c := by
  have : (Tx.cs w)[0]? = some c := by rw [hc]; rfl
  rw [Array.getElem?_toList] at this
  exact this
theorem sgn0_ne {c : Nat} : decide (V.str ⟨#[c]⟩ = V.str (Str.ofString "0")) = decide (c = 48) := by
  by_cases h : c = 48
  · subst h
    exact (decide_eq_true (show V.str ⟨#[48]⟩ = V.str (Str.ofString "0") from rfl)).trans (decide_eq_true (rfl : (48 : Nat) = 48)).symm
  · rw [decide_eq_false h, decide_eq_false]
    intro e
    injection e with e
    have e2 : [c] = [48] := congrArg Tx.cs e
    injection e2 with e3
    exact h e3
theorem ok_is_number (T : Bl mg) (C : Tx.Cn mg) (F : Fun K "is_number" "is_number" sIsNumber f fd) : FnOk P w K mg base CX0 1 f fd ["word"] spNumG := by
  obtain ⟨_, hFIGURES⟩ := C.fig
  obtain ⟨_, hMOST_FIGURES⟩ := C.mf
  refine F.ok scIsNumber (fun vs H Q E h => ?_) (fun cdv A outer s H vs Q E hr h => ?_)
  · obtain ⟨n, rfl, _⟩ := h
    rfl
  obtain ⟨x, rfl, hw, q⟩ := h
  have hsz : x.length ≤ sizeLine := Nat.le_trans hw.len (by decide)
  have hlc := Tx.len_cs x
  refine ⟨_, pss_cons (ps_if (PW.pt (pw_or (pt_cmpR op_lt (pe_callB call_len_str rfl T.len PySem.boot_len (pa_cons (pv 0) pa_nil)) (pe_int) (nomark _)) (pw_or1 (pt_cmpR op_gt (pe_callB call_len_str rfl T.len PySem.boot_len (pa_cons (pv 0) pa_nil)) (pe_glob (v := .int 400) rfl hMOST_FIGURES ⟨_, rfl⟩) (nomark _))))) (pss_one (ps_ret (pe_bl))) (pss_nil))
    (pss_one (ps_ret (pe_and (pe_cmpR op_ne (pe_item_str (pv 0) (pe_int) (fun _ _ => rfl)) (pe_str) (nomark _)) (pe_one (pe_callB (call_allL rfl) rfl T.all PyProof.Rows.boot_all (pa_cons (pe_comp (caps := []) ⟨rfl, rfl, rfl, rfl, by decide +kernel, rfl⟩ rfl (pi_str (pv 0)) (fun _ _ _ => pif_nil) (fun _ _ _ => pe_cmpR op_in_str (pv 0) (pe_glob (v := .str Tx.figs) rfl hFIGURES ⟨_, rfl⟩) (by with_unfolding_all rfl))) pa_nil)))))), ?_⟩
  refine ⟨_, rfl, x, rfl, hsz, _, _, rfl, rfl, _, rfl, ?_⟩
  by_cases h1 : (x.length : Int) < 1
  · rw [decide_eq_true h1]
    have := q H (Same.refl _)
    rw [isNum_short (by omega)] at this
    exact iteT this
  rw [decide_eq_false h1]
  refine iteF ⟨_, rfl, x, rfl, hsz, _, _, rfl, rfl, _, rfl, ?_⟩
  by_cases h2 : (400 : Int) < (x.length : Int)
  · rw [decide_eq_true h2]
    have := q H (Same.refl _)
    rw [isNum_short (by omega)] at this
    exact iteT this
  rw [decide_eq_false h2]
  refine iteF ?_
  cases hc : Tx.cs x with
  | nil => rw [hc] at hlc; simp at hlc; omega
  | cons c0 r0 =>
    have hmid := isNum_mid (by omega) (by omega) hc
    rw [hmid] at q
    refine ⟨_, rfl, x, 0, c0, rfl, rfl, by decide, by decide, by omega, head_at hc, ?_⟩
    refine ⟨rfl, _, rfl, ?_⟩
    rw [sgn0_ne]
    by_cases h48 : c0 = 48
    · rw [decide_eq_true h48]
      have := q H (Same.refl _)
      rw [decide_eq_false (fun z => z h48)] at this
      exact iteF this
    rw [decide_eq_false h48]
    rw [decide_eq_true h48] at q
    refine iteT ?_
    refine ⟨_, rfl, x, rfl, hw.all, ?_⟩
    refine comp_ix src_str (fun _ _ => trivial) (by simp; exact hsz) (fun i => .bl (Tx.isD ((Tx.cs x).getD i 0))) (fun i v H' Q' hv g k => ?_) (fun D H' hD g e => ?_)
    · have hi : i < x.cps.size := by
        have := (List.getElem?_eq_some_iff.mp hv).1
        simpa using this
      rw [List.getElem?_map, List.getElem?_range hi] at hv
      cases hv
      refine ⟨_, rfl, _, _, rfl, rfl, ?_⟩
      have hil : i < (Tx.cs x).length := by rw [Array.length_toList]; exact hi
      have := k H' (Same.refl _)
      rw [List.getD_eq_getElem?_getD, List.getElem?_eq_getElem hil] at this
      rw [sgn_at hi, Tx.figs_iff (hw.asc _ (List.getElem_mem hil))]
      exact this
    · refine ⟨D, (Tx.cs x).map Tx.isD, rfl, SqL.of ?_, ?_⟩
      · rw [e, List.map_map]
        refine congrArg (fun l => some (HO.lst l)) (List.ext_getElem (by rw [List.length_map, List.length_range, List.length_map, List.length_map, List.length_range, Array.length_toList]) fun i h1 h2 => ?_)
        have hil : i < (Tx.cs x).length := by rw [List.length_map] at h2; exact h2
        rw [List.getElem_map, List.getElem_map, List.getElem_range, List.getD_eq_getElem?_getD, List.getElem?_eq_getElem hil]
        rfl
      · rw [List.all_map]
        exact q H' g
/-! ### the number that a word is, or the refusal -/
def spNumX (C : Addr) : Sp := fun vs H Q E => ∃ w : Str, vs = [.str w] ∧ Tx.Wd 13173268 w ∧ (Tx.isNumB w = true → ∀ H', Same H H' → Q (.int ((Tx.numN w : Nat) : Int)) H') ∧ (Tx.isNumB w = false → ∀ H', Same H H' → E (.ref C) none H')
theorem scNumberOf : FnScope ["word"] ["word"] (defScope sNumberOf) := ⟨rfl, rfl, rfl, by decide +kernel, rfl, by decide +kernel, by decide +kernel⟩
theorem ok_number_ofX (T : Bl mg) {cE cB : Addr} (XB : Xcl K mg "BadText" cB cE) (F : Fun K "number_of" "number_of" sNumberOf f fd) (Din : Df P w K mg base 1 "is_number" ["word"] spNumG) : FnOk P w K mg base (CXF P w K) 2 f fd ["word"] (spNumX cB) := by
  refine F.okX scNumberOf (fun vs H Q E h => ?_) (fun cdv A outer s H vs Q E hr h => ?_)
  · obtain ⟨n, rfl, _⟩ := h
    rfl
  obtain ⟨x, rfl, hw, q1, q2⟩ := h
  refine ⟨_, pss_cons (ps_if (pt_not (pt_val (pe_df Din hr (by decide) rfl (pa_cons (pv 0) pa_nil)))) (pss_one (ps_raise throwF XB.x rfl XB.m hr.hd (pa_cons (pe_str) pa_nil))) (pss_nil))
    (pss_one (ps_ret (pe_callTy call_intT rfl T.int PyProof.Rows.boot_int (pa_cons (pv 0) pa_nil)))), ?_⟩
  refine ⟨_, rfl, x, rfl, hw, fun H1 g1 => ⟨_, rfl, ?_⟩⟩
  cases hn : Tx.isNumB x with
  | false => exact iteT ⟨by decide, q2 hn H1 g1⟩
  | true =>
    obtain ⟨h1, h2, h3⟩ := Tx.num_val hn
    have hl : x.length ≤ 400 := by
      unfold Tx.isNumB at hn
      simp only [Bool.and_eq_true, decide_eq_true_eq] at hn
      exact hn.1.1.2
    exact iteF ⟨_, rfl, x, _, rfl, h1, Nat.le_trans hl (by decide), q1 hn H1 g1⟩
/-! ### must_hold, either way -/
def spMustB (C : Addr) : Sp := fun vs H Q E => ∃ (t : Int) (a : Addr) (ns : List Int) (B : Nat), vs = [.int t, .ref a] ∧ Ls H a ns ∧ Arg B t ns ∧ (Mir.isRow t ns = true → ∀ H', Same H H' → Q .non H') ∧ (Mir.isRow t ns = false → ∀ H', Same H H' → E (.ref C) none H')
theorem scMustHoldB : FnScope ["times", "row"] ["times", "row"] (defScope sMustHold) := ⟨rfl, rfl, rfl, by decide +kernel, rfl, by decide +kernel, by decide +kernel⟩
theorem ok_must_holdB {cE cN : Addr} (XN : Xcl K mg "NoRow" cN cE) (F : Fun K "must_hold" "must_hold" sMustHold f fd) (Dh : Df P w K mg base 2 "holds" ["times", "row"] (spRow K)) : FnOk P w K mg base (CXF P w K) 3 f fd ["times", "row"] (spMustB cN) := by
  refine F.okX scMustHoldB (fun vs H Q E h => ?_) (fun cdv A outer s H vs Q E hr h => ?_)
  · obtain ⟨t, a, ns, B, rfl, _⟩ := h
    rfl
  obtain ⟨t, a, ns, B, rfl, hl, hA, q1, q2⟩ := h
  refine ⟨_, pss_one (ps_if (pt_not (pt_val (pe_df Dh hr (by decide) rfl (pa_cons (pv 0) (pa_cons (pv 1) pa_nil))))) (pss_one (ps_raise throwF XN.x rfl XN.m hr.hd (pa_cons (pe_str) pa_nil))) (pss_nil)), ?_⟩
  refine ⟨_, rfl, _, rfl, t, a, ns, B, rfl, hl.sq, hA.t, hA.bd, hA.z2, hA.zr, hA.pos, hA.lt, fun H' g => ⟨_, rfl, ?_⟩⟩
  cases hrow : Mir.isRow t ns with
  | true => exact iteF (q1 hrow H' g)
  | false => exact iteT ⟨by decide, q2 hrow H' g⟩
end
end Z
end

section
set_option Elab.async false
set_option linter.all false
set_option maxRecDepth 100000
set_option maxHeartbeats 4000000
namespace Z
open PySem L2
section
variable {P : Program} {w : World} {K : PySem.W.Frag} {mg : Str → Option Value} {base : Heap} {f : Addr} {fd : FuncData}
/-! ### read, any text -/
def formB (ws : List Str) : Bool := decide (5 ≤ ws.length) && decide (ws.length ≤ 8) && decide (ws.getD 1 Str.empty = "x")
def numsB (ws : List Str) : Bool := Tx.isNumB (ws.getD 0 Str.empty) && (ws.drop 2).all Tx.isNumB
def tOf (ws : List Str) : Int := ((Tx.numN (ws.getD 0 Str.empty) : Nat) : Int)
def nsOf (ws : List Str) : List Int := (ws.drop 2).map fun w => ((Tx.numN w : Nat) : Int)
def goodB (ws : List Str) : Bool := formB ws && numsB ws && decide (tOf ws ≤ 1000)
def spReadX (C C2 : Addr) : Sp := fun vs H Q E => ∃ x : Str, vs = [.str x] ∧ Tx.Wd 13173268 x ∧ (goodB (Txt.split x Tx.sp) = false → ∀ H', Same H H' → E (.ref C) none H') ∧
  (goodB (Txt.split x Tx.sp) = true → Mir.isRow (tOf (Txt.split x Tx.sp)) (nsOf (Txt.split x Tx.sp)) = false → ∀ H', Same H H' → E (.ref C2) none H') ∧
  (goodB (Txt.split x Tx.sp) = true → Mir.isRow (tOf (Txt.split x Tx.sp)) (nsOf (Txt.split x Tx.sp)) = true → ∀ p r H', Same H H' → H' p = some (.tup [.int (tOf (Txt.split x Tx.sp)), .ref r]) → Ls H' r (nsOf (Txt.split x Tx.sp)) → Q (.ref p) H')
theorem scRead : FnScope ["text", "words", "many", "times", "row"] ["text"] (defScope sRead) := ⟨rfl, rfl, rfl, by decide +kernel, rfl, by decide +kernel, by decide +kernel⟩
theorem form_of {ws : List Str} (h : formB ws = true) : 5 ≤ ws.length ∧ ws.length ≤ 8 ∧ ws.getD 1 Str.empty = "x" := by
  unfold formB at h
  simp only [Bool.and_eq_true, decide_eq_true_eq] at h
  exact ⟨h.1.1, h.1.2, h.2⟩
theorem good_of {ws : List Str} (h : goodB ws = true) : formB ws = true ∧ numsB ws = true ∧ tOf ws ≤ 1000 := by
  unfold goodB at h
  simp only [Bool.and_eq_true, decide_eq_true_eq] at h
  exact ⟨h.1.1, h.1.2, h.2⟩
theorem good_arg {ws : List Str} (h : goodB ws = true) : Arg 1400 (tOf ws) (nsOf ws) := by
  obtain ⟨h1, h2, h3⟩ := good_of h
  obtain ⟨f1, f2, _⟩ := form_of h1
  have hl : (nsOf ws).length = ws.length - 2 := by unfold nsOf; rw [List.length_map, List.length_drop]
  refine ⟨?_, fun y hy => ?_, by omega, by omega, by decide⟩
  · have : 0 ≤ tOf ws := Int.natCast_nonneg _
    omega
  · obtain ⟨x, hx, rfl⟩ := List.mem_map.mp hy
    have hn : Tx.isNumB x = true := by
      unfold numsB at h2
      simp only [Bool.and_eq_true] at h2
      exact List.all_eq_true.mp h2.2 x hx
    have := (Tx.num_val hn).2.2
    rw [Int.natAbs_natCast]
    exact Nat.lt_of_lt_of_le this (by decide +kernel)
def numV : V → V
  | .str x => .int ((Tx.numN x : Nat) : Int)
  | v => v
theorem ok_readX (T : Bl mg) (C : Tx.Cn mg) {cE cB cN : Addr} (XB : Xcl K mg "BadText" cB cE) (F : Fun K "read" "read" sRead f fd) (Dnx : DfX P w K mg base 2 "number_of" ["word"] (spNumX cB)) (Dmx : DfX P w K mg base 3 "must_hold" ["times", "row"] (spMustB cN)) : FnOk P w K mg base (CXF P w K) 4 f fd ["text"] (spReadX cB cN) := by
  obtain ⟨_, hLEAST_NUMBERS⟩ := C.ln
  obtain ⟨_, hMOST_NUMBERS⟩ := C.mn
  obtain ⟨_, hMOST_TIMES⟩ := C.mt
  refine F.okX scRead (fun vs H Q E h => ?_) (fun cdv A outer s H vs Q E hr h => ?_)
  · obtain ⟨x, rfl, _⟩ := h
    rfl
  obtain ⟨x, rfl, hw, qb, qn, q⟩ := h
  refine ⟨_, pss_cons (ps_set (i := 1) scRead.nd rfl (Or.inl rfl) (pe_bm PySem.F.plainAttrs_str PySem.F.slot_str_split PySem.F.type_str_split mt_split (pv 0) (pa_cons (pe_str) pa_nil)))
    (pss_cons (ps_set (i := 2) scRead.nd rfl (Or.inl rfl) (pe_op op_sub (pe_callB call_len_seq rfl T.len PySem.boot_len (pa_cons (pv 1) pa_nil)) (pe_int)))
    (pss_cons (ps_if (PW.pt (pw_or (pt_cmpR op_lt (pv 2) (pe_glob (v := .int 3) rfl hLEAST_NUMBERS ⟨_, rfl⟩) (nomark _)) (pw_or (pt_cmpR op_gt (pv 2) (pe_glob (v := .int 6) rfl hMOST_NUMBERS ⟨_, rfl⟩) (nomark _)) (pw_or1 (pt_cmpR op_ne (pe_ix ix_list (pv 1) (pe_int) (fun _ _ => rfl)) (pe_str) (nomark _)))))) (pss_one (ps_raise throwF XB.x rfl XB.m hr.hd (pa_cons (pe_str) pa_nil))) (pss_nil))
    (pss_cons (ps_set (i := 3) scRead.nd rfl (Or.inl rfl) (pe_dfX Dnx hr (by decide) passF rfl (pa_cons (pe_ix ix_list (pv 1) (pe_int) (fun _ _ => rfl)) pa_nil)))
    (pss_cons (ps_setcE (i := 4) (caps := []) ⟨rfl, rfl, rfl⟩ (fun _ _ => Iff.rfl) scRead.nd rfl (Or.inl rfl) ⟨rfl, rfl, rfl, rfl, by decide +kernel, rfl⟩ rfl (pi_list (pe_slice sl_list (pv 1) (po_some (pe_int)) (po_none))) (fun _ _ _ => pif_nil) (fun _ _ _ _ hp => pe_dfX Dnx hr (by decide) hp rfl (pa_cons (pv 0) pa_nil)))
    (pss_cons (ps_if (pt_cmpR op_gt (pv 3) (pe_glob (v := .int 1000) rfl hMOST_TIMES ⟨_, rfl⟩) (nomark _)) (pss_one (ps_raise throwF XB.x rfl XB.m hr.hd (pa_cons (pe_str) pa_nil))) (pss_nil))
    (pss_cons (ps_expr (pe_dfX Dmx hr (by decide) passF rfl (pa_cons (pv 3) (pa_cons (pv 4) pa_nil))))
    (pss_one (ps_ret (pe_tup (pa_cons (pv 3) (pa_cons (pv 4) pa_nil))))))))))), ?_⟩
  obtain ⟨hwd, hfew⟩ := Tx.split_wd hw
  have hs0 : sizeLine = 16777216 := rfl
  have hsz : x.length ≤ sizeLine := Nat.le_trans hw.len (by decide)
  refine ⟨_, rfl, rfl, x, Tx.sp, rfl, rfl, rfl, hsz, by omega, fun D hD => ?_⟩
  generalize Txt.split x Tx.sp = ws at qb qn q hwd hfew
  have hml : (ws.map V.str).length = ws.length := List.length_map _
  have g1 := same_new hD (.lst (ws.map V.str))
  have hD1 : upd H D (.lst (ws.map V.str)) D = some (.lst (ws.map V.str)) := upd_same
  generalize upd H D (.lst (ws.map V.str)) = H1 at g1 hD1
  have bad : formB ws = false → E (.ref cB) none H1 := fun z => qb (by unfold goodB; rw [z]; rfl) H1 g1
  refine ⟨_, rfl, D, _, rfl, .inl (SqL.of hD1), _, _, rfl, rfl, ?_⟩
  refine ⟨_, rfl, _, _, rfl, rfl, _, rfl, ?_⟩
  by_cases c1 : (((ws.map V.str).length : Nat) : Int) - 2 < 3
  · rw [decide_eq_true c1]
    exact iteT ⟨by decide, bad (by unfold formB; rw [decide_eq_false (by omega)]; rfl)⟩
  rw [decide_eq_false c1]
  refine iteF ⟨_, rfl, _, _, rfl, rfl, _, rfl, ?_⟩
  by_cases c2 : (6 : Int) < (((ws.map V.str).length : Nat) : Int) - 2
  · rw [decide_eq_true c2]
    exact iteT ⟨by decide, bad (by unfold formB; rw [decide_eq_true (by omega : 5 ≤ ws.length), decide_eq_false (by omega)]; rfl)⟩
  rw [decide_eq_false c2]
  have at1 : (ws.map V.str)[1]? = some (V.str (ws.getD 1 Str.empty)) := by
    rw [List.getElem?_map, List.getD_eq_getElem?_getD, List.getElem?_eq_getElem (by omega)]; rfl
  have at0 : (ws.map V.str)[0]? = some (V.str (ws.getD 0 Str.empty)) := by
    rw [List.getElem?_map, List.getD_eq_getElem?_getD, List.getElem?_eq_getElem (by omega)]; rfl
  refine iteF ⟨_, rfl, D, _, _, _, rfl, rfl, SqL.of hD1, atI_nat (j := 1) at1, rfl, _, rfl, ?_⟩
  by_cases c3 : V.str (ws.getD 1 Str.empty) = V.str (Str.ofString "x")
  case neg =>
    rw [decide_eq_false c3]
    exact iteT ⟨by decide, bad (by unfold formB; rw [decide_eq_true (by omega : 5 ≤ ws.length), decide_eq_true (by omega : ws.length ≤ 8), decide_eq_false (fun z => c3 (congrArg V.str z))]; rfl)⟩
  rw [decide_eq_true c3]
  have hform : formB ws = true := by
    unfold formB
    rw [decide_eq_true (by omega : 5 ≤ ws.length), decide_eq_true (by omega : ws.length ≤ 8), decide_eq_true (V.str.inj c3)]
    rfl
  refine iteF ?_
  have hw0 : Tx.Wd 13173268 (ws.getD 0 Str.empty) := hwd _ (by rw [List.getD_eq_getElem?_getD, List.getElem?_eq_getElem (by omega)]; exact List.getElem_mem _)
  refine ⟨_, rfl, D, _, _, _, rfl, rfl, SqL.of hD1, atI_nat (j := 0) at0, _, rfl, hw0, fun n0 H2 g2 => ?_, fun n0 H2 g2 => ?_⟩
  case refine_2 => exact qb (by unfold goodB numsB; rw [hform, n0]; rfl) H2 (g1.trans g2)
  have g12 := g1.trans g2
  have hD2 := g2 _ _ hD1
  refine ⟨_, rfl, _, rfl, D, _, rfl, SqL.of hD2, fun S hS => ?_⟩
  have ecut : cutV (ws.map V.str) (some 2) none = (ws.drop 2).map V.str := by
    have := cut_drop (ws.map V.str) 2
    rw [show ((2 : Nat) : Int) = 2 from rfl] at this
    rw [this, List.map_drop]
  rw [ecut]
  have g3 := same_new hS (.lst ((ws.drop 2).map V.str))
  have hdl : (ws.drop 2).length ≤ 6 := by rw [List.length_drop]; omega
  refine ⟨S, rfl, ⟨_, SqL.of upd_same⟩, comp_scalP src_list (fun H' gg => gg.seq (SqL.of upd_same)) (by rw [List.length_map]; exact Nat.le_of_lt (small1000 (by omega))) numV (fun v => ∀ y, v = V.str y → Tx.isNumB y = true) (fun v H' Q' hv g k => ?_) (fun hall R H' hR g e => ?_)⟩
  · obtain ⟨y, hy, rfl⟩ := List.mem_map.mp hv
    refine ⟨_, rfl, y, rfl, hwd y (List.mem_of_mem_drop hy), fun ny H5 g5 => k (fun z hz => by rw [← V.str.inj hz]; exact ny) H5 g5, fun ny H5 g5 => ?_⟩
    refine qb ?_ H5 (((g12.trans g3).trans g).trans g5)
    unfold goodB numsB
    rw [hform, n0]
    have : (ws.drop 2).all Tx.isNumB = false := by
      rw [Bool.eq_false_iff]
      intro z
      have := List.all_eq_true.mp z y hy
      rw [ny] at this
      cases this
    rw [this]
    rfl
  have hnums : numsB ws = true := by
    unfold numsB
    rw [n0, List.all_eq_true.mpr fun y hy => hall _ (List.mem_map_of_mem hy) y rfl]
    rfl
  have e' : Ls H' R (nsOf ws) := by
    show H' R = _
    rw [e, List.map_map]
    unfold nsOf
    rw [List.map_map]
    rfl
  have gall := (g12.trans g3).trans g
  refine ⟨_, rfl, _, _, rfl, rfl, _, rfl, ?_⟩
  by_cases c4 : (1000 : Int) < ((Tx.numN (ws.getD 0 Str.empty) : Nat) : Int)
  · rw [decide_eq_true c4]
    refine iteT ⟨by decide, qb ?_ H' gall⟩
    unfold goodB
    rw [hform, hnums, decide_eq_false (by show ¬ ((Tx.numN (ws.getD 0 Str.empty) : Nat) : Int) ≤ 1000; omega)]
    rfl
  rw [decide_eq_false c4]
  have hgood : goodB ws = true := by
    unfold goodB
    rw [hform, hnums, decide_eq_true (by show ((Tx.numN (ws.getD 0 Str.empty) : Nat) : Int) ≤ 1000; omega)]
    rfl
  refine iteF ⟨_, rfl, _, rfl, tOf ws, R, nsOf ws, 1400, rfl, e', good_arg hgood, fun hrow H9 g9 => ?_, fun hrow H9 g9 => ?_⟩
  · refine ⟨_, rfl, _, rfl, (by show 2 ≤ sizeLine; decide), fun p hp => ?_⟩
    have g10 := same_new hp (.tup [.int (tOf ws), .ref R])
    exact q hgood hrow p R _ ((gall.trans g9).trans g10) upd_same (g10 _ _ (g9 _ _ e'))
  · exact qn hgood hrow H9 (gall.trans g9)
end
end Z
end

section
set_option Elab.async false
set_option linter.all false
set_option maxRecDepth 100000
set_option maxHeartbeats 4000000
namespace Z
open PySem L2
section
variable {P : Program} {w : World} {K : PySem.W.Frag} {mg : Str → Option Value} {base : Heap} {f : Addr} {fd : FuncData}
/-! ### what is asked of the law's own parts -/
def spOdd : Sp := fun vs H Q _ => ∃ c : Int, vs = [.int c] ∧ ∀ z H', Tx.Wd 401 z → Same H H' → Q (.str z) H'
def spTurned14 : Sp := fun vs H Q _ => ∃ (a : Addr) (ws : List Str) (c : Int), vs = [.ref a, .int c] ∧ H a = some (.lst (ws.map V.str)) ∧ 5 ≤ ws.length ∧ ws.length ≤ 8 ∧ (∀ w ∈ ws, Tx.Wd 401 w) ∧
  ∀ (D : Addr) (us : List Str) (H' : Hp), Same H H' → H' D = some (.lst (us.map V.str)) → us.length ≤ 9 → (∀ w ∈ us, Tx.Wd 401 w) → Q (.ref D) H'
def spNum14 : Sp := fun vs H Q _ => ∃ x : Str, vs = [.str x] ∧ Tx.Wd 13173268 x ∧ ∀ H', Same H H' → Q (.int ((Tx.numN x : Nat) : Int)) H'
def spDue14 : Sp := fun vs H Q _ => ∃ x : Str, vs = [.str x] ∧ Tx.Wd 13173268 x ∧ (goodB (Txt.split x Tx.sp) = false → ∀ H', Same H H' → Q .non H') ∧
  (goodB (Txt.split x Tx.sp) = true → ∀ D H', Same H H' → Ls H' D (tOf (Txt.split x Tx.sp) :: nsOf (Txt.split x Tx.sp)) → Q (.ref D) H')
def spTried14 : Sp := fun vs H Q _ => ∃ x : Str, vs = [.str x] ∧ Tx.Wd 13173268 x ∧
  (goodB (Txt.split x Tx.sp) = false → ∀ p k H', Same H H' → H' p = some (.tup [.non, .ref k]) → H' k = some (.lst [.bl true, .bl false, .bl false, .bl false, .bl true]) → Q (.ref p) H') ∧
  (goodB (Txt.split x Tx.sp) = true → Mir.isRow (tOf (Txt.split x Tx.sp)) (nsOf (Txt.split x Tx.sp)) = false → ∀ p k H', Same H H' → H' p = some (.tup [.non, .ref k]) → H' k = some (.lst [.bl false, .bl true, .bl false, .bl false, .bl true]) → Q (.ref p) H') ∧
  (goodB (Txt.split x Tx.sp) = true → Mir.isRow (tOf (Txt.split x Tx.sp)) (nsOf (Txt.split x Tx.sp)) = true → ∀ p k o r H', Same H H' → H' p = some (.tup [.ref o, .ref k]) → H' k = some (.lst []) → H' o = some (.tup [.int (tOf (Txt.split x Tx.sp)), .ref r]) → Ls H' r (nsOf (Txt.split x Tx.sp)) → Q (.ref p) H')
end
end Z
end

section
set_option Elab.async false
set_option linter.all false
set_option maxRecDepth 100000
set_option maxHeartbeats 4000000
namespace Z
open PySem L2
section
variable {P : Program} {w : World} {K : PySem.W.Frag} {mg : Str → Option Value} {base : Heap} {f : Addr} {fd : FuncData}
/-! ### an odd word -/
theorem scOdd : FnScope ["cell", "some"] ["cell"] (defScope sOdd) := ⟨rfl, rfl, rfl, by decide +kernel, rfl, by decide +kernel, by decide +kernel⟩
theorem wd_c {x : Str} (h : (decide (x.length ≤ 401) && (Tx.cs x).all (fun c => decide (c < 128))) = true) : Tx.Wd 401 x := by
  rw [Bool.and_eq_true] at h
  exact ⟨of_decide_eq_true h.1, fun c hc => of_decide_eq_true (List.all_eq_true.mp h.2 c hc)⟩
theorem wd_9 {x : Str} {n : Nat} (hn : n ≤ 401) (h : x.cps.toList = List.replicate n 57) : Tx.Wd 401 x := by
  refine ⟨?_, fun c hc => ?_⟩
  · have := congrArg List.length h
    rw [List.length_replicate, Array.length_toList] at this
    show x.cps.size ≤ 401
    omega
  · rw [show Tx.cs x = _ from h] at hc
    rw [List.eq_of_mem_replicate hc]
    decide
def StrV (v : V) : Prop := ∃ z, v = .str z ∧ Tx.Wd 401 z
abbrev cstE (l : List (Str × Nat × Pos)) : List Expr := l.map fun x => .Constant (.str x.1) x.2.1 x.2.2
theorem pa_strL {X : Cx} : ∀ l : List (Str × Nat × Pos), PA X (cstE l) (fun _ H Q => Q (l.map fun x => .str x.1) H)
  | [] => pa_nil
  | x :: l => pa_cons pe_str (pa_strL l) rfl
def oddL : List (Str × Nat × Pos) := [("", 0, ⟨93, 12, 93, 14⟩), ("0", 0, ⟨93, 16, 93, 19⟩), ("01", 0, ⟨93, 21, 93, 25⟩), ("+1", 0, ⟨93, 27, 93, 31⟩), ("-1", 0, ⟨93, 33, 93, 37⟩), ("1_0", 0, ⟨93, 39, 93, 44⟩), ("x", 0, ⟨93, 46, 93, 49⟩), ("X", 0, ⟨93, 51, 93, 54⟩), ("1.", 0, ⟨93, 56, 93, 60⟩), ("a", 0, ⟨93, 62, 93, 65⟩), ("1x", 0, ⟨93, 67, 93, 71⟩), ("\t1", 0, ⟨93, 73, 93, 78⟩), ("1\n", 0, ⟨93, 80, 93, 85⟩), ("2", 0, ⟨93, 87, 93, 90⟩), ("1", 0, ⟨93, 92, 93, 95⟩), ("7", 0, ⟨93, 97, 93, 100⟩), ("1000", 0, ⟨93, 102, 93, 108⟩), ("1001", 0, ⟨93, 110, 93, 116⟩)]
theorem sv_c {x : Str} (h : (decide (x.length ≤ 401) && (Tx.cs x).all (fun c => decide (c < 128))) = true) : StrV (.str x) := ⟨x, rfl, wd_c h⟩
theorem all_cons {v : V} {vs : List V} (h : StrV v) (t : ∀ u ∈ vs, StrV u) : ∀ u ∈ v :: vs, StrV u := fun u hu => by
  rcases List.mem_cons.mp hu with rfl | hu
  · exact h
  · exact t u hu
theorem all_none : ∀ u ∈ ([] : List V), StrV u := fun u hu => nomatch hu
theorem ix_pick {H3 : Hp} {l3 : Addr} {xs : List V} {c n : Int} {Q : VK} (hn : 0 < n) (hx : H3 l3 = some (.lst xs)) (hl : (xs.length : Int) = n) (hall : ∀ v ∈ xs, StrV v) (q : ∀ z, Tx.Wd 401 z → Q (.str z) H3) : rIxL K (.ref l3) (.int (c % n)) H3 Q := by
  have h0 := Int.emod_nonneg c (show n ≠ 0 by omega)
  have h1 := Int.emod_lt_of_pos c hn
  obtain ⟨k, hk⟩ : ∃ k : Nat, c % n = (k : Int) := ⟨(c % n).toNat, by omega⟩
  have hkL : k < xs.length := by omega
  obtain ⟨z, hz, hwd⟩ := hall xs[k] (List.getElem_mem hkL)
  refine ⟨l3, xs, k, xs[k], rfl, by rw [hk], SqL.of hx, atI_nat (List.getElem?_eq_getElem hkL), ?_⟩
  rw [hz]
  exact q z hwd
theorem all_app {xs ys : List V} (h1 : ∀ u ∈ xs, StrV u) (h2 : ∀ u ∈ ys, StrV u) : ∀ u ∈ xs ++ ys, StrV u := fun u hu => by
  rcases List.mem_append.mp hu with h | h
  · exact h1 u h
  · exact h2 u h
theorem ok_odd (F : Fun K "_law_odd" "_law_odd" sOdd f fd) : FnOk P w K mg base CX0 1 f fd ["cell"] spOdd := by
  refine F.ok scOdd (fun vs H Q E h => ?_) (fun cdv A outer s H vs Q E hr h => ?_)
  · obtain ⟨c, rfl, _⟩ := h
    rfl
  obtain ⟨c, rfl, q⟩ := h
  have hall : ∀ v ∈ oddL.map (fun x => V.str x.1), StrV v := fun v hv => by
    obtain ⟨x, hx, rfl⟩ := List.mem_map.mp hv
    refine sv_c ?_
    exact List.all_eq_true.mp (show oddL.all (fun x => decide (x.1.length ≤ 401) && (Tx.cs x.1).all (fun c => decide (c < 128))) = true by decide +kernel) x hx
  have hlen : (oddL.map (fun x => V.str x.1)).length = 18 := rfl
  have e : defBody sOdd = (.Assign [.Name "some" ⟨93, 4, 93, 8⟩] (.List (cstE oddL) ⟨93, 11, 93, 117⟩) ⟨93, 4, 93, 117⟩ : Stmt) :: (defBody sOdd).drop 1 := rfl
  generalize hd : (defBody sOdd).drop 1 = r at e
  rw [e, ← hd]
  clear e hd
  generalize oddL = L at hall hlen
  refine ⟨_, pss_cons (ps_set (i := 1) scOdd.nd rfl (Or.inl rfl) (pe_lst (pa_strL L)))
    (pss_cons (ps_set (i := 1) scOdd.nd rfl (Or.inl rfl) (pe_op op_cat (pv 1) (pe_lst (pa_cons pe_str (pa_cons (pe_op op_mul9 (pe_str) (pe_int)) (pa_cons (pe_op op_mul9 (pe_str) (pe_int)) pa_nil))))))
    (pss_one (ps_ret (pe_ix ix_list (pv 1) (pe_op op_mod (pv 0) (pe_int)) (fun _ _ => rfl))))), ?_⟩
  refine ⟨?_, fun l1 h1 => ?_⟩
  · show (L.map (fun x => V.str x.1)).length ≤ sizeLine
    rw [hlen]; decide
  generalize L.map (fun x => V.str x.1) = L1 at hall hlen
  refine ⟨_, rfl, 400, rfl, rfl, by decide, by decide, fun z1 hz1 => ⟨401, rfl, rfl, by decide, by decide, fun z2 hz2 => ⟨(by show 3 ≤ sizeLine; decide), fun l2 h2 => ?_⟩⟩⟩
  refine ⟨l1, l2, _, _, rfl, rfl, (same_new h2 _) _ _ upd_same, upd_same, ?_, fun l3 h3 => ?_⟩
  · rw [hlen]; show 18 + 3 ≤ sizeLine; decide
  refine ⟨_, rfl, _, rfl, _, _, rfl, rfl, (by show (0 : Int) < 21; decide), ?_⟩
  refine ix_pick (by decide) upd_same ?_ (all_app hall ?_) fun z hz => q z _ hz (((same_new h1 _).trans (same_new h2 _)).trans (same_new h3 _))
  · rw [List.length_append, hlen]; rfl
  · exact all_cons (sv_c (by decide +kernel)) (all_cons ⟨_, rfl, wd_9 (by decide) hz1⟩ (all_cons ⟨_, rfl, wd_9 (by decide) hz2⟩ all_none))
end
end Z
end

section
set_option Elab.async false
set_option linter.all false
set_option maxRecDepth 100000
set_option maxHeartbeats 4000000
namespace Z
open PySem L2
section
variable {P : Program} {w : World} {K : PySem.W.Frag} {mg : Str → Option Value} {base : Heap} {f : Addr} {fd : FuncData}
/-! ### the words turned -/
theorem scTurned14 : FnScope ["words", "cell", "at", "odd", "mode"] ["words", "cell"] (defScope sTurned) := ⟨rfl, rfl, rfl, by decide +kernel, rfl, by decide +kernel, by decide +kernel⟩
theorem ok_turned14 (T : Bl mg) (F : Fun K "_law_turned" "_law_turned" sTurned f fd) (Dod : Df P w K mg base 1 "_law_odd" ["cell"] spOdd) : FnOk P w K mg base CX0 2 f fd ["words", "cell"] spTurned14 := by
  refine F.ok scTurned14 (fun vs H Q E h => ?_) (fun cdv A outer s H vs Q E hr h => ?_)
  · obtain ⟨a, ws, c, rfl, _⟩ := h
    rfl
  obtain ⟨a, ws, c, rfl, ha, h5, h8, hwd, q⟩ := h
  refine ⟨_, pss_cons (ps_set (i := 2) scTurned14.nd rfl (Or.inl rfl) (pe_op op_mod (pv 1) (pe_callB call_len_seq rfl T.len PySem.boot_len (pa_cons (pv 0) pa_nil))))
    (pss_cons (ps_set (i := 3) scTurned14.nd rfl (Or.inl rfl) (pe_df Dod hr (by decide) rfl (pa_cons (pe_op op_fdiv (pv 1) (pe_int)) pa_nil)))
    (pss_cons (ps_set (i := 4) scTurned14.nd rfl (Or.inl rfl) (pe_op op_mod (pe_op op_fdiv (pv 1) (pe_int)) (pe_int)))
    (pss_cons (ps_if (pt_cmpR op_eq (pv 4) (pe_int) (nomark _)) (pss_one (ps_ret (pe_op op_cat (pe_op op_cat (pe_slice sl_list (pv 0) (po_none) (po_some (pv 2))) (pe_lst (pa_cons (pv 3) pa_nil))) (pe_slice sl_list (pv 0) (po_some (pe_op op_add (pv 2) (pe_int))) (po_none))))) (pss_nil))
    (pss_cons (ps_if (pt_cmpR op_eq (pv 4) (pe_int) (nomark _)) (pss_one (ps_ret (pe_op op_cat (pe_op op_cat (pe_slice sl_list (pv 0) (po_none) (po_some (pv 2))) (pe_lst (pa_cons (pv 3) pa_nil))) (pe_slice sl_list (pv 0) (po_some (pv 2)) (po_none))))) (pss_nil))
    (pss_cons (ps_if (pt_cmpR op_eq (pv 4) (pe_int) (nomark _)) (pss_one (ps_ret (pe_op op_cat (pe_slice sl_list (pv 0) (po_none) (po_some (pv 2))) (pe_slice sl_list (pv 0) (po_some (pe_op op_add (pv 2) (pe_int))) (po_none))))) (pss_nil))
    (pss_cons (ps_if (pt_cmpR op_eq (pv 4) (pe_int) (nomark _)) (pss_one (ps_ret (pe_op op_cat (pe_lst (pa_cons (pv 3) pa_nil)) (pe_slice sl_list (pv 0) (po_some (pe_int)) (po_none))))) (pss_nil))
    (pss_one (ps_ret (pv 0))))))))), ?_⟩
  have hml : (ws.map V.str).length = ws.length := List.length_map _
  have hs0 : sizeLine = 16777216 := rfl
  refine ⟨_, rfl, _, rfl, a, _, rfl, .inl (SqL.of ha), _, _, rfl, rfl, (by show (0 : Int) < (((ws.map V.str).length : Nat) : Int); omega), ?_⟩
  refine ⟨_, rfl, _, _, rfl, rfl, ⟨(by show (0 : Int) < 8; decide), (by show (8 : Int) < 1073741824; decide)⟩, _, rfl, fun z H1 hz g1 => ?_⟩
  refine ⟨_, rfl, _, _, rfl, rfl, ⟨(by show (0 : Int) < 168; decide), (by show (168 : Int) < 1073741824; decide)⟩, _, _, rfl, rfl, (by show (0 : Int) < 5; decide), ?_⟩
  have ha1 := g1 _ _ ha
  obtain ⟨k, hk, hkl⟩ : ∃ k : Nat, c % (((ws.map V.str).length : Nat) : Int) = (k : Int) ∧ k < ws.length := by
    have h0 := Int.emod_nonneg c (show (((ws.map V.str).length : Nat) : Int) ≠ 0 by omega)
    have h1 := Int.emod_lt_of_pos c (show (0 : Int) < (((ws.map V.str).length : Nat) : Int) by omega)
    exact ⟨(c % (((ws.map V.str).length : Nat) : Int)).toNat, by omega, by omega⟩
  have ct : cutV (ws.map V.str) none (some (k : Int)) = (ws.take k).map V.str := by rw [cut_take _ (by omega), List.map_take]
  have cd0 : cutV (ws.map V.str) (some (k : Int)) none = (ws.drop k).map V.str := by rw [cut_drop, List.map_drop]
  have cd1 : cutV (ws.map V.str) (some ((k : Int) + 1)) none = (ws.drop (k + 1)).map V.str := by
    have := cut_drop (ws.map V.str) (k + 1)
    rw [List.map_drop, ← this]; rfl
  have cd2 : cutV (ws.map V.str) (some 1) none = (ws.drop 1).map V.str := by
    have := cut_drop (ws.map V.str) 1
    rw [List.map_drop, ← this]; rfl
  have lt : (ws.take k).length ≤ k := by rw [List.length_take]; omega
  have ld0 : (ws.drop k).length = ws.length - k := List.length_drop
  have ld1 : (ws.drop (k + 1)).length = ws.length - (k + 1) := List.length_drop
  have ld2 : (ws.drop 1).length = ws.length - 1 := List.length_drop
  have mt : ∀ w ∈ ws.take k, Tx.Wd 401 w := fun w hw => hwd w (List.mem_of_mem_take hw)
  have md : ∀ j, ∀ w ∈ ws.drop j, Tx.Wd 401 w := fun j w hw => hwd w (List.mem_of_mem_drop hw)
  have mz : ∀ w ∈ [z], Tx.Wd 401 w := fun w hw => by rw [List.mem_singleton.mp hw]; exact hz
  have app : ∀ {v1 v2 : List Str}, (∀ w ∈ v1, Tx.Wd 401 w) → (∀ w ∈ v2, Tx.Wd 401 w) → ∀ w ∈ v1 ++ v2, Tx.Wd 401 w := fun a1 a2 w hw => by
    rcases List.mem_append.mp hw with y | y
    · exact a1 w y
    · exact a2 w y
  dsimp only at *
  rw [hk]
  generalize c / 168 % 5 = md5
  refine ⟨_, rfl, rfl, _, rfl, iteD (fun m1 => ?_) (fun m1 => ?_)⟩
  · refine ⟨_, rfl, _, rfl, _, rfl, a, _, rfl, SqL.of ha1, fun p1 e1 => ?_⟩
    rw [ct]
    have s1 := same_new e1 (.lst ((ws.take k).map V.str))
    refine ⟨_, rfl, (by show 1 ≤ sizeLine; decide), fun p2 e2 => ?_⟩
    have s2 := same_new e2 (.lst [.str z])
    refine ⟨p1, p2, _, _, rfl, rfl, s2 _ _ upd_same, upd_same, ?_, fun p3 e3 => ?_⟩
    · rw [List.length_map]; show _ + 1 ≤ sizeLine; omega
    have s3 := same_new e3 (.lst ((ws.take k).map V.str ++ [.str z]))
    have sa := (s1.trans s2).trans s3
    refine ⟨_, rfl, _, rfl, _, _, rfl, rfl, _, rfl, a, _, rfl, SqL.of (sa _ _ ha1), fun p4 e4 => ?_⟩
    rw [cd1]
    have s4 := same_new e4 (.lst ((ws.drop (k + 1)).map V.str))
    refine ⟨p3, p4, _, _, rfl, rfl, s4 _ _ upd_same, upd_same, ?_, fun p5 e5 => ?_⟩
    · rw [List.length_append, List.length_map, List.length_map]; show _ + 1 + _ ≤ sizeLine; omega
    have s5 := same_new e5 (.lst ((ws.take k).map V.str ++ [.str z] ++ (ws.drop (k + 1)).map V.str))
    refine q p5 (ws.take k ++ [z] ++ ws.drop (k + 1)) _ (((g1.trans sa).trans s4).trans s5) ?_ ?_ (app (app mt mz) (md _))
    · rw [upd_same, List.map_append, List.map_append]; rfl
    · rw [List.length_append, List.length_append]; show _ + 1 + _ ≤ 9; omega
  refine ⟨_, rfl, rfl, _, rfl, iteD (fun m2 => ?_) (fun m2 => ?_)⟩
  · refine ⟨_, rfl, _, rfl, _, rfl, a, _, rfl, SqL.of ha1, fun p1 e1 => ?_⟩
    rw [ct]
    have s1 := same_new e1 (.lst ((ws.take k).map V.str))
    refine ⟨_, rfl, (by show 1 ≤ sizeLine; decide), fun p2 e2 => ?_⟩
    have s2 := same_new e2 (.lst [.str z])
    refine ⟨p1, p2, _, _, rfl, rfl, s2 _ _ upd_same, upd_same, ?_, fun p3 e3 => ?_⟩
    · rw [List.length_map]; show _ + 1 ≤ sizeLine; omega
    have s3 := same_new e3 (.lst ((ws.take k).map V.str ++ [.str z]))
    have sa := (s1.trans s2).trans s3
    refine ⟨_, rfl, _, rfl, _, rfl, a, _, rfl, SqL.of (sa _ _ ha1), fun p4 e4 => ?_⟩
    rw [cd0]
    have s4 := same_new e4 (.lst ((ws.drop k).map V.str))
    refine ⟨p3, p4, _, _, rfl, rfl, s4 _ _ upd_same, upd_same, ?_, fun p5 e5 => ?_⟩
    · rw [List.length_append, List.length_map, List.length_map]; show _ + 1 + _ ≤ sizeLine; omega
    have s5 := same_new e5 (.lst ((ws.take k).map V.str ++ [.str z] ++ (ws.drop k).map V.str))
    refine q p5 (ws.take k ++ [z] ++ ws.drop k) _ (((g1.trans sa).trans s4).trans s5) ?_ ?_ (app (app mt mz) (md _))
    · rw [upd_same, List.map_append, List.map_append]; rfl
    · rw [List.length_append, List.length_append]; show _ + 1 + _ ≤ 9; omega
  refine ⟨_, rfl, rfl, _, rfl, iteD (fun m3 => ?_) (fun m3 => ?_)⟩
  · refine ⟨_, rfl, _, rfl, _, rfl, a, _, rfl, SqL.of ha1, fun p1 e1 => ?_⟩
    rw [ct]
    have s1 := same_new e1 (.lst ((ws.take k).map V.str))
    refine ⟨_, rfl, _, rfl, _, _, rfl, rfl, _, rfl, a, _, rfl, SqL.of (s1 _ _ ha1), fun p4 e4 => ?_⟩
    rw [cd1]
    have s4 := same_new e4 (.lst ((ws.drop (k + 1)).map V.str))
    refine ⟨p1, p4, _, _, rfl, rfl, s4 _ _ upd_same, upd_same, ?_, fun p5 e5 => ?_⟩
    · rw [List.length_map, List.length_map]; omega
    have s5 := same_new e5 (.lst ((ws.take k).map V.str ++ (ws.drop (k + 1)).map V.str))
    refine q p5 (ws.take k ++ ws.drop (k + 1)) _ (((g1.trans s1).trans s4).trans s5) ?_ ?_ (app mt (md _))
    · rw [upd_same, List.map_append]
    · rw [List.length_append]; omega
  refine ⟨_, rfl, rfl, _, rfl, iteD (fun m4 => ?_) (fun m4 => ?_)⟩
  · refine ⟨_, rfl, (by show 1 ≤ sizeLine; decide), fun p2 e2 => ?_⟩
    have s2 := same_new e2 (.lst [.str z])
    refine ⟨_, rfl, _, rfl, a, _, rfl, SqL.of (s2 _ _ ha1), fun p4 e4 => ?_⟩
    rw [cd2]
    have s4 := same_new e4 (.lst ((ws.drop 1).map V.str))
    refine ⟨p2, p4, _, _, rfl, rfl, s4 _ _ upd_same, upd_same, ?_, fun p5 e5 => ?_⟩
    · rw [List.length_map]; show 1 + _ ≤ sizeLine; omega
    have s5 := same_new e5 (.lst ([.str z] ++ (ws.drop 1).map V.str))
    refine q p5 ([z] ++ ws.drop 1) _ (((g1.trans s2).trans s4).trans s5) ?_ ?_ (app mz (md _))
    · rw [upd_same, List.map_append]; rfl
    · rw [List.length_append]; show 1 + _ ≤ 9; omega
  exact ⟨_, rfl, q a ws H1 g1 ha1 (by omega) hwd⟩
end
end Z
end

section
set_option Elab.async false
set_option linter.all false
set_option maxRecDepth 100000
set_option maxHeartbeats 4000000
namespace Z
open PySem L2
section
variable {P : Program} {w : World} {K : PySem.W.Frag} {mg : Str → Option Value} {base : Heap} {f : Addr} {fd : FuncData}
/-! ### the number of a word, by the law -/
theorem scLNum : FnScope ["word", "sign"] ["word"] (defScope sLNumber) := ⟨rfl, rfl, rfl, by decide +kernel, rfl, by decide +kernel, by decide +kernel⟩
theorem ok_number14 (T : Bl mg) (F : Fun K "_law_number" "_law_number" sLNumber f fd) : FnOk P w K mg base CX0 1 f fd ["word"] spNum14 := by
  refine F.ok scLNum (fun vs H Q E h => ?_) (fun cdv A outer s H vs Q E hr h => ?_)
  · obtain ⟨n, rfl, _⟩ := h
    rfl
  obtain ⟨x, rfl, hw, q⟩ := h
  have hsz : x.length ≤ sizeLine := Nat.le_trans hw.len (by decide)
  have hlc := Tx.len_cs x
  have zero : Tx.isNumB x = false → Q (.int 0) H := fun h => by
    have := q H (Same.refl _)
    rw [Tx.num_zero.mpr h] at this
    exact this
  refine ⟨_, pss_cons (ps_if (PW.pt (pw_or (pt_cmpR op_eq (pv 0) (pe_str) (nomark _)) (pw_or (pt_cmpR op_gt (pe_callB call_len_str rfl T.len PySem.boot_len (pa_cons (pv 0) pa_nil)) (pe_int) (nomark _)) (pw_or1 (pt_cmpR op_eq (pe_item_str (pv 0) (pe_int) (fun _ _ => rfl)) (pe_str) (nomark _)))))) (pss_one (ps_ret (pe_int))) (pss_nil))
    (pss_cons (ps_for PassesOwn.never rfl (pi_str (pv 0)) (pg_name (i := 1) scLNum.nd rfl (Or.inl rfl))
      (pss_one (ps_if (pt_cmpR op_notIn_str (pv 1) (pe_str) (by with_unfolding_all rfl)) (pss_one (ps_ret (pe_int))) (pss_nil))))
    (pss_one (ps_ret (pe_callTy call_intT rfl T.int PyProof.Rows.boot_int (pa_cons (pv 0) pa_nil))))), ?_⟩
  refine ⟨_, rfl, rfl, _, rfl, ?_⟩
  by_cases e1 : V.str x = V.str (Str.ofString "")
  · rw [decide_eq_true e1]
    refine iteT (zero (isNum_short ?_))
    rw [V.str.inj e1]
    decide
  rw [decide_eq_false e1]
  refine iteF ⟨_, rfl, x, rfl, hsz, _, _, rfl, rfl, _, rfl, ?_⟩
  by_cases h2 : (400 : Int) < (x.length : Int)
  · rw [decide_eq_true h2]
    exact iteT (zero (isNum_short (by omega)))
  rw [decide_eq_false h2]
  refine iteF ?_
  cases hc : Tx.cs x with
  | nil => exact absurd (congrArg V.str (Tx.cs_inj (hc.trans (rfl : ([] : List Nat) = Tx.cs (Str.ofString ""))))) e1
  | cons c0 r0 =>
    have hl1 : 1 ≤ x.length := by rw [← hlc, hc, List.length_cons]; omega
    have hmid := isNum_mid hl1 (by omega) hc
    refine ⟨_, rfl, x, 0, c0, rfl, rfl, by decide, by decide, by omega, head_at hc, ?_⟩
    refine ⟨rfl, _, rfl, ?_⟩
    rw [sgn0_ne]
    by_cases h48 : c0 = 48
    · rw [decide_eq_true h48]
      refine iteT (zero ?_)
      rw [hmid, decide_eq_false (fun z => z h48)]
      rfl
    rw [decide_eq_false h48]
    rw [decide_eq_true h48] at hmid
    refine iteF ?_
    refine ⟨_, rfl, x, rfl, hw.all, for_str (fun i σ' H' => H' = H ∧ (∃ o, σ' = [some (.str x), o]) ∧ ∀ j, j < i → Tx.isD ((Tx.cs x).getD j 0) = true) ⟨rfl, ⟨_, rfl⟩, fun j hj => absurd hj (Nat.not_lt_zero _)⟩ (fun i σ' H' hi h => ?_) (fun σ' H' h => ?_)⟩
    · obtain ⟨rfl, ⟨o, rfl⟩, hall⟩ := h
      have hil : i < (Tx.cs x).length := by rw [Array.length_toList]; exact hi
      have hgd : (Tx.cs x).getD i 0 = (Tx.cs x)[i] := by rw [List.getD_eq_getElem?_getD, List.getElem?_eq_getElem hil]; rfl
      have hfi := Tx.figs_iff (hw.asc _ (List.getElem_mem hil))
      rw [sgn_at hi]
      refine ⟨_, rfl, _, _, rfl, rfl, _, rfl, iteD (fun c => ?_) (fun c => ?_)⟩
      · refine zero ?_
        have c' : (!Tx.isD (Tx.cs x)[i]) = true := by rw [← hfi]; exact c
        rw [hmid]
        cases ha : (Tx.cs x).all Tx.isD with
        | false => rfl
        | true => rw [List.all_eq_true.mp ha _ (List.getElem_mem hil)] at c'; cases c'
      · have c' : (!Tx.isD (Tx.cs x)[i]) = false := by rw [← hfi]; exact c
        refine ⟨rfl, ⟨_, rfl⟩, fun j hj => ?_⟩
        rcases Nat.lt_or_ge j i with z | z
        · exact hall j z
        · have : j = i := by omega
          subst this
          rw [hgd]
          cases hb : Tx.isD (Tx.cs x)[j] with
          | true => rfl
          | false => rw [hb] at c'; cases c'
    · obtain ⟨rfl, ⟨o, rfl⟩, hall⟩ := h
      have hn : Tx.isNumB x = true := by
        rw [hmid, List.all_eq_true.mpr fun c hc' => ?_]
        · rfl
        · obtain ⟨j, hj, rfl⟩ := List.mem_iff_getElem.mp hc'
          have := hall j (by rw [← Array.length_toList]; exact hj)
          rw [List.getD_eq_getElem?_getD, List.getElem?_eq_getElem hj] at this
          exact this
      obtain ⟨h1, _, _⟩ := Tx.num_val hn
      exact ⟨_, rfl, x, _, rfl, h1, by omega, q H' (Same.refl _)⟩
end
end Z
end

section
set_option Elab.async false
set_option linter.all false
set_option maxRecDepth 100000
set_option maxHeartbeats 4000000
namespace Z
open PySem L2
section
variable {P : Program} {w : World} {K : PySem.W.Frag} {mg : Str → Option Value} {base : Heap} {f : Addr} {fd : FuncData}
/-! ### what is due -/
theorem scDue : FnScope ["text", "words", "numbers"] ["text"] (defScope sDue) := ⟨rfl, rfl, rfl, by decide +kernel, rfl, by decide +kernel, by decide +kernel⟩
theorem in_zero {ns : List Int} : inV (.int 0) (ns.map V.int) = decide (0 ∈ ns) := by
  unfold inV
  rw [List.any_map]
  rw [Bool.eq_iff_iff, List.any_eq_true, decide_eq_true_eq]
  constructor
  · rintro ⟨y, hy, e⟩
    have : y = 0 := eq_of_beq (show (y == (0 : Int)) = true from e)
    rw [← this]; exact hy
  · intro h
    exact ⟨0, h, rfl⟩
theorem flat_ints (ns : List Int) : (ns.map V.int).all flatV = true := by
  rw [List.all_eq_true]
  intro v hv
  obtain ⟨i, _, rfl⟩ := List.mem_map.mp hv
  rfl
def dueL (ws : List Str) : List Int := tOf ws :: nsOf ws
theorem due_zero {ws : List Str} : (0 : Int) ∈ dueL ws ↔ numsB ws = false := by
  unfold dueL tOf nsOf numsB
  constructor
  · intro h
    rcases List.mem_cons.mp h with z | z
    · rw [Tx.num_zero.mp (by omega)]; rfl
    · obtain ⟨y, hy, e⟩ := List.mem_map.mp z
      have hf := Tx.num_zero.mp (show Tx.numN y = 0 by omega)
      have : (ws.drop 2).all Tx.isNumB = false := by
        rw [Bool.eq_false_iff]
        intro a
        have := List.all_eq_true.mp a y hy
        rw [hf] at this
        cases this
      rw [this, Bool.and_false]
  · intro h
    cases h0 : Tx.isNumB (ws.getD 0 Str.empty) with
    | false => rw [Tx.num_zero.mpr h0]; exact List.mem_cons_self
    | true =>
      rw [h0, Bool.true_and, ← Bool.not_eq_true, List.all_eq_true] at h
      have : ∃ y ∈ ws.drop 2, Tx.isNumB y = false := by
        refine Classical.byContradiction fun z => h fun y hy => ?_
        cases e : Tx.isNumB y with
        | true => rfl
        | false => exact absurd ⟨y, hy, e⟩ z
      obtain ⟨y, hy, e⟩ := this
      exact List.mem_cons_of_mem _ (List.mem_map.mpr ⟨y, hy, by rw [Tx.num_zero.mpr e]; rfl⟩)
theorem ok_due14 (T : Bl mg) (F : Fun K "_law_due" "_law_due" sDue f fd) (Dln : Df P w K mg base 1 "_law_number" ["word"] spNum14) : FnOk P w K mg base CX0 2 f fd ["text"] spDue14 := by
  refine F.ok scDue (fun vs H Q E h => ?_) (fun cdv A outer s H vs Q E hr h => ?_)
  · obtain ⟨n, rfl, _⟩ := h
    rfl
  obtain ⟨x, rfl, hw, qb, q⟩ := h
  refine ⟨_, pss_cons (ps_set (i := 1) scDue.nd rfl (Or.inl rfl) (pe_bm PySem.F.plainAttrs_str PySem.F.slot_str_split PySem.F.type_str_split mt_split (pv 0) (pa_cons (pe_str) pa_nil)))
    (pss_cons (ps_if (PW.pt (pw_or (pt_not (pt_chain op_le op_le (pe_int) (pe_callB call_len_seq rfl T.len PySem.boot_len (pa_cons (pv 1) pa_nil)) (pe_int))) (pw_or1 (pt_cmpR op_ne (pe_ix ix_list (pv 1) (pe_int) (fun _ _ => rfl)) (pe_str) (nomark _))))) (pss_one (ps_ret (pe_non))) (pss_nil))
    (pss_cons (ps_setc (i := 2) (caps := []) scDue.nd rfl (Or.inl rfl) ⟨rfl, rfl, rfl, rfl, by decide +kernel, rfl⟩ rfl (pi_list (pe_op op_cat (pe_slice sl_list (pv 1) (po_none) (po_some (pe_int))) (pe_slice sl_list (pv 1) (po_some (pe_int)) (po_none)))) (fun _ _ _ => pif_nil) (fun _ _ _ => pe_df Dln hr (by decide) rfl (pa_cons (pv 0) pa_nil)))
    (pss_cons (ps_if (PW.pt (pw_or (pt_cmpR op_in_seq (pe_int) (pv 2) (by with_unfolding_all rfl)) (pw_or1 (pt_cmpR op_gt (pe_ix ix_list (pv 2) (pe_int) (fun _ _ => rfl)) (pe_int) (nomark _))))) (pss_one (ps_ret (pe_non))) (pss_nil))
    (pss_one (ps_ret (pv 2)))))), ?_⟩
  obtain ⟨hwd, hfew⟩ := Tx.split_wd hw
  have hs0 : sizeLine = 16777216 := rfl
  have hsz : x.length ≤ sizeLine := Nat.le_trans hw.len (by decide)
  refine ⟨_, rfl, rfl, x, Tx.sp, rfl, rfl, rfl, hsz, by omega, fun D hD => ?_⟩
  generalize Txt.split x Tx.sp = ws at qb q hwd hfew
  have hml : (ws.map V.str).length = ws.length := List.length_map _
  have g1 := same_new hD (.lst (ws.map V.str))
  have hD1 : upd H D (.lst (ws.map V.str)) D = some (.lst (ws.map V.str)) := upd_same
  generalize upd H D (.lst (ws.map V.str)) = H1 at g1 hD1
  have bad : formB ws = false → Q .non H1 := fun z => qb (by unfold goodB; rw [z]; rfl) H1 g1
  refine ⟨_, rfl, D, _, rfl, .inl (SqL.of hD1), _, _, rfl, rfl, _, rfl, ?_⟩
  by_cases c1 : (5 : Int) ≤ (((ws.map V.str).length : Nat) : Int)
  case neg =>
    rw [decide_eq_false c1]
    exact iteF ⟨_, rfl, iteT (bad (by unfold formB; rw [decide_eq_false (by omega)]; rfl))⟩
  rw [decide_eq_true c1]
  refine iteT ⟨_, _, rfl, rfl, _, rfl, ?_⟩
  by_cases c2 : (((ws.map V.str).length : Nat) : Int) ≤ 8
  case neg =>
    rw [decide_eq_false c2]
    exact iteT (bad (by unfold formB; rw [decide_eq_true (by omega : 5 ≤ ws.length), decide_eq_false (by omega)]; rfl))
  rw [decide_eq_true c2]
  have at1 : (ws.map V.str)[1]? = some (V.str (ws.getD 1 Str.empty)) := by
    rw [List.getElem?_map, List.getD_eq_getElem?_getD, List.getElem?_eq_getElem (by omega)]; rfl
  refine iteF ⟨_, rfl, D, _, _, _, rfl, rfl, SqL.of hD1, atI_nat (j := 1) at1, rfl, _, rfl, ?_⟩
  by_cases c3 : V.str (ws.getD 1 Str.empty) = V.str (Str.ofString "x")
  case neg =>
    rw [decide_eq_false c3]
    exact iteT (bad (by unfold formB; rw [decide_eq_true (by omega : 5 ≤ ws.length), decide_eq_true (by omega : ws.length ≤ 8), decide_eq_false (fun z => c3 (congrArg V.str z))]; rfl))
  rw [decide_eq_true c3]
  have hform : formB ws = true := by
    unfold formB
    rw [decide_eq_true (by omega : 5 ≤ ws.length), decide_eq_true (by omega : ws.length ≤ 8), decide_eq_true (V.str.inj c3)]
    rfl
  refine iteF ?_
  -- the numbers
  refine ⟨_, rfl, _, rfl, D, _, rfl, SqL.of hD1, fun p1 e1 => ?_⟩
  have s1 := same_new e1 (.lst (cutV (ws.map V.str) none (some 1)))
  refine ⟨_, rfl, _, rfl, D, _, rfl, SqL.of (s1 _ _ hD1), fun p2 e2 => ?_⟩
  have s2 := same_new e2 (.lst (cutV (ws.map V.str) (some 2) none))
  have l1 := cutV_length (ws.map V.str) none (some 1)
  have l2 := cutV_length (ws.map V.str) (some 2) none
  refine ⟨p1, p2, _, _, rfl, rfl, s2 _ _ upd_same, upd_same, by omega, fun p3 e3 => ?_⟩
  have ecut : cutV (ws.map V.str) none (some 1) ++ cutV (ws.map V.str) (some 2) none = (ws.getD 0 Str.empty :: ws.drop 2).map V.str := by
    have h1 := cut_take (ws.map V.str) (p := 1) (by omega)
    have h2 := cut_drop (ws.map V.str) 2
    rw [show (some (((1 : Nat)) : Int)) = some 1 from rfl] at h1
    rw [show (some (((2 : Nat)) : Int)) = some 2 from rfl] at h2
    rw [h1, h2, List.map_cons, List.map_drop]
    cases ws with
    | nil => simp at c1
    | cons y r => rfl
  have hcl : (ws.getD 0 Str.empty :: ws.drop 2).length ≤ 8 := by rw [List.length_cons, List.length_drop]; omega
  have hcm : ∀ y ∈ ws.getD 0 Str.empty :: ws.drop 2, Tx.Wd 13173268 y := fun y hy => by
    rcases List.mem_cons.mp hy with z | z
    · rw [z, List.getD_eq_getElem?_getD, List.getElem?_eq_getElem (by omega)]; exact hwd _ (List.getElem_mem _)
    · exact hwd y (List.mem_of_mem_drop z)
  have s3 := same_new e3 (.lst (cutV (ws.map V.str) none (some 1) ++ cutV (ws.map V.str) (some 2) none))
  have s3D : upd (upd (upd H1 p1 (.lst (cutV (ws.map V.str) none (some 1)))) p2 (.lst (cutV (ws.map V.str) (some 2) none))) p3 (.lst (cutV (ws.map V.str) none (some 1) ++ cutV (ws.map V.str) (some 2) none)) p3 = some (.lst ((ws.getD 0 Str.empty :: ws.drop 2).map V.str)) := by
    rw [upd_same, ecut]
  have g3 := ((g1.trans s1).trans s2).trans s3
  generalize upd (upd (upd H1 p1 (.lst (cutV (ws.map V.str) none (some 1)))) p2 (.lst (cutV (ws.map V.str) (some 2) none))) p3 (.lst (cutV (ws.map V.str) none (some 1) ++ cutV (ws.map V.str) (some 2) none)) = H3 at s3D g3
  refine ⟨p3, rfl, ⟨_, SqL.of s3D⟩, comp_scal src_list (SqL.of s3D) (fun H' gg => gg.seq (SqL.of s3D)) (by rw [List.length_map]; exact Nat.le_of_lt (small1000 (by omega))) numV (fun v H' Q' hv g k => ?_) (fun R H' hR g e => ?_)⟩
  · obtain ⟨y, hy, rfl⟩ := List.mem_map.mp hv
    exact ⟨_, rfl, y, rfl, hcm y hy, fun H5 g5 => k H5 g5⟩
  have e' : Ls H' R (dueL ws) := by
    show H' R = _
    rw [e, List.map_map]
    unfold dueL tOf nsOf
    rw [List.map_cons, List.map_cons, List.map_map]
    rfl
  have gall := g3.trans g
  refine ⟨_, rfl, R, _, rfl, .inl e'.sq, rfl, flat_ints _, _, rfl, ?_⟩
  rw [show (if false = true then !inV (V.int 0) ((dueL ws).map V.int) else inV (V.int 0) ((dueL ws).map V.int)) = decide ((0 : Int) ∈ dueL ws) from in_zero]
  by_cases c4 : (0 : Int) ∈ dueL ws
  · rw [decide_eq_true c4]
    refine iteT (qb ?_ H' gall)
    unfold goodB
    rw [hform, due_zero.mp c4]
    rfl
  rw [decide_eq_false c4]
  have hnums : numsB ws = true := by
    cases hb : numsB ws with
    | true => rfl
    | false => exact absurd (due_zero.mpr hb) c4
  refine iteF ⟨_, rfl, R, _, _, _, rfl, rfl, e'.sq, atI_nat (j := 0) (rfl : ((dueL ws).map V.int)[0]? = some (.int (tOf ws))), _, _, rfl, rfl, _, rfl, ?_⟩
  by_cases c5 : (1000 : Int) < tOf ws
  · rw [decide_eq_true c5]
    refine iteT (qb ?_ H' gall)
    unfold goodB
    rw [hform, hnums, decide_eq_false (by omega)]
    rfl
  rw [decide_eq_false c5]
  refine iteF ⟨_, rfl, q ?_ R H' gall e'⟩
  unfold goodB
  rw [hform, hnums, decide_eq_true (by omega)]
  rfl
end
end Z
end

section
set_option Elab.async false
set_option linter.all false
set_option maxRecDepth 100000
set_option maxHeartbeats 4000000
namespace Z
open PySem L2
section
variable {P : Program} {w : World} {K : PySem.W.Frag} {mg : Str → Option Value} {base : Heap} {f : Addr} {fd : FuncData}
/-! ### read, tried -/
theorem boot_VE : bootBuiltins "ValueError" = some (.type "ValueError") := by decide +kernel
theorem scTried14 : FnScope ["text", "found", "kinds", "e"] ["text"] (defScope sTried) := ⟨rfl, rfl, rfl, by decide +kernel, rfl, by decide +kernel, by decide +kernel⟩
theorem ok_tried14 (T : Bl mg) (hVE : mg "ValueError" = none) {cE cN cP cS cB : Addr} (XE : Xcl K mg "RowError" cE cE) (XN : Xcl K mg "NoRow" cN cE) (XP : Xcl K mg "NoPlace" cP cE) (XS : Xcl K mg "NoSuch" cS cE) (XB : Xcl K mg "BadText" cB cE)
    (kNB : PySem.W.kitOne K (.ref cN) (.ref cB) = some false) (kNP : PySem.W.kitOne K (.ref cN) (.ref cP) = some false) (kNS : PySem.W.kitOne K (.ref cN) (.ref cS) = some false) (kNV : PySem.W.kitOne K (.ref cN) (.type "ValueError") = some true)
    (kBN : PySem.W.kitOne K (.ref cB) (.ref cN) = some false) (kBP : PySem.W.kitOne K (.ref cB) (.ref cP) = some false) (kBS : PySem.W.kitOne K (.ref cB) (.ref cS) = some false) (kBV : PySem.W.kitOne K (.ref cB) (.type "ValueError") = some true)
    (F : Fun K "_law_tried" "_law_tried" sTried f fd) (Drx : DfX P w K mg base 4 "read" ["text"] (spReadX cB cN)) : FnOk P w K mg base CX0 5 f fd ["text"] spTried14 := by
  refine F.ok scTried14 (fun vs H Q E h => ?_) (fun cdv A outer s H vs Q E hr h => ?_)
  · obtain ⟨x, rfl, _⟩ := h
    rfl
  obtain ⟨x, rfl, hw, qb, qn, q⟩ := h
  refine ⟨_, pss_cons (ps_set (i := 1) scTried14.nd rfl (Or.inl rfl) (pe_non))
    (pss_cons (ps_set (i := 2) scTried14.nd rfl (Or.inl rfl) (pe_lst (pa_nil)))
    (pss_cons (ps_try (i := 3) ⟨rfl, rfl, rfl⟩ scTried14.nd rfl rfl rfl XE.m XE.x (fun pn W σ0 E hp => pss_one (ps_set (i := 1) scTried14.nd rfl (Or.inl rfl) (pe_dfAt Drx hr (by decide) hp rfl (pa_cons (pv 0) pa_nil))))
      (fun x => pss_cons (ps_set (i := 2) scTried14.nd rfl (Or.inl rfl) (pe_lst (pa_cons (pe_callB (call_isxK K rfl) rfl T.isinstance PyProof.Rows.boot_isinstance (pa_cons (pv 3) (pa_cons (pe_glob (v := .ref _) rfl XB.m rfl) pa_nil))) (pa_cons (pe_callB (call_isxK K rfl) rfl T.isinstance PyProof.Rows.boot_isinstance (pa_cons (pv 3) (pa_cons (pe_glob (v := .ref _) rfl XN.m rfl) pa_nil))) (pa_cons (pe_callB (call_isxK K rfl) rfl T.isinstance PyProof.Rows.boot_isinstance (pa_cons (pv 3) (pa_cons (pe_glob (v := .ref _) rfl XP.m rfl) pa_nil))) (pa_cons (pe_callB (call_isxK K rfl) rfl T.isinstance PyProof.Rows.boot_isinstance (pa_cons (pv 3) (pa_cons (pe_glob (v := .ref _) rfl XS.m rfl) pa_nil))) pa_nil))))))
    (pss_one (ps_set (i := 2) scTried14.nd rfl (Or.inl rfl) (pe_op op_cat (pv 2) (pe_lst (pa_cons (pe_callB (call_isxK K rfl) rfl T.isinstance PyProof.Rows.boot_isinstance (pa_cons (pv 3) (pa_cons (pe_bltn rfl hVE boot_VE (v := .ty "ValueError") rfl) pa_nil))) pa_nil)))))))
    (pss_one (ps_ret (pe_tup (pa_cons (pv 1) (pa_cons (pv 2) pa_nil))))))), ?_⟩
  refine ⟨(by show 0 ≤ sizeLine; decide), fun k hk => ?_⟩
  have g1 := same_new hk (.lst [])
  refine ⟨rfl, _, rfl, x, rfl, hw, fun hg H2 g2 => ⟨cB, rfl, XB.x, XB.r, fun y hy => ?_⟩, fun hg hrow H2 g2 => ⟨cN, rfl, XN.x, XN.r, fun y hy => ?_⟩, fun hg hrow o r H2 g2 ho hl => ?_⟩
  · have gx := same_new hy (exO y cB)
    refine ⟨_, rfl, y, cB, _, _, _, rfl, fun u r => r, upd_same, XB.x, kit_self K _, ?_⟩
    refine ⟨_, rfl, y, cB, _, _, _, rfl, fun u r => r, upd_same, XB.x, kBN, ?_⟩
    refine ⟨_, rfl, y, cB, _, _, _, rfl, fun u r => r, upd_same, XB.x, kBP, ?_⟩
    refine ⟨_, rfl, y, cB, _, _, _, rfl, fun u r => r, upd_same, XB.x, kBS, ?_⟩
    refine ⟨(by show 4 ≤ sizeLine; decide), fun k2 hk2 => ?_⟩
    have gk := same_new hk2 (.lst [.bl true, .bl false, .bl false, .bl false])
    refine ⟨_, rfl, _, rfl, y, cB, _, _, _, rfl, fun u r => r, gk _ _ upd_same, XB.x, kBV, ?_⟩
    refine ⟨(by show 1 ≤ sizeLine; decide), fun k3 hk3 => ?_⟩
    have gl := same_new hk3 (.lst [.bl true])
    refine ⟨k2, k3, _, _, rfl, rfl, gl _ _ upd_same, upd_same, (by show 5 ≤ sizeLine; decide), fun k4 hk4 => ?_⟩
    have gm := same_new hk4 (.lst [.bl true, .bl false, .bl false, .bl false, .bl true])
    refine ⟨_, rfl, _, rfl, (by show 2 ≤ sizeLine; decide), fun p hp => ?_⟩
    have gp := same_new hp (.tup [.non, .ref k4])
    exact qb hg p k4 _ (((((((g1.trans g2).trans gx).trans gk).trans gl).trans gm)).trans gp) upd_same (gp _ _ upd_same)
  · have gx := same_new hy (exO y cN)
    refine ⟨_, rfl, y, cN, _, _, _, rfl, fun u r => r, upd_same, XN.x, kNB, ?_⟩
    refine ⟨_, rfl, y, cN, _, _, _, rfl, fun u r => r, upd_same, XN.x, kit_self K _, ?_⟩
    refine ⟨_, rfl, y, cN, _, _, _, rfl, fun u r => r, upd_same, XN.x, kNP, ?_⟩
    refine ⟨_, rfl, y, cN, _, _, _, rfl, fun u r => r, upd_same, XN.x, kNS, ?_⟩
    refine ⟨(by show 4 ≤ sizeLine; decide), fun k2 hk2 => ?_⟩
    have gk := same_new hk2 (.lst [.bl false, .bl true, .bl false, .bl false])
    refine ⟨_, rfl, _, rfl, y, cN, _, _, _, rfl, fun u r => r, gk _ _ upd_same, XN.x, kNV, ?_⟩
    refine ⟨(by show 1 ≤ sizeLine; decide), fun k3 hk3 => ?_⟩
    have gl := same_new hk3 (.lst [.bl true])
    refine ⟨k2, k3, _, _, rfl, rfl, gl _ _ upd_same, upd_same, (by show 5 ≤ sizeLine; decide), fun k4 hk4 => ?_⟩
    have gm := same_new hk4 (.lst [.bl false, .bl true, .bl false, .bl false, .bl true])
    refine ⟨_, rfl, _, rfl, (by show 2 ≤ sizeLine; decide), fun p hp => ?_⟩
    have gp := same_new hp (.tup [.non, .ref k4])
    exact qn hg hrow p k4 _ (((((((g1.trans g2).trans gx).trans gk).trans gl).trans gm)).trans gp) upd_same (gp _ _ upd_same)
  · refine ⟨_, rfl, _, rfl, (by show 2 ≤ sizeLine; decide), fun p hp => ?_⟩
    have gp := same_new hp (.tup [.ref o, .ref k])
    exact q hg hrow p k o r _ ((g1.trans g2).trans gp) upd_same (gp _ _ (g2 _ _ upd_same)) (gp _ _ ho) (gp _ _ hl)
end
end Z
end

section
set_option Elab.async false
set_option linter.all false
set_option maxRecDepth 100000
set_option maxHeartbeats 4000000
namespace Z
open PySem L2
section
variable {P : Program} {w : World} {K : PySem.W.Frag} {mg : Str → Option Value} {base : Heap} {f : Addr} {fd : FuncData}
/-! ### the law -/
def spLaw (K : PySem.W.Frag) : Sp := fun vs H Q _ => ∃ (a : Addr) (ns : List Int), vs = [.ref a] ∧ SqL K H a (ns.map V.int) ∧ ns.length ≤ 63 ∧ ∀ H', Q (.bl true) H'
theorem scLaw : FnScope ["script", "short", "drawn", "words", "text", "due", "tried", "found"] ["script"] (defScope sLaw) := ⟨rfl, rfl, rfl, by decide +kernel, rfl, by decide +kernel, by decide +kernel⟩
def cutI (ns : List Int) (lo hi : Option Int) : List Int := (ns.drop (HT.sIx ns.length 0 lo)).take (HT.sIx ns.length ns.length hi - HT.sIx ns.length 0 lo)
theorem cut_ints (ns : List Int) (lo hi : Option Int) : cutV (ns.map V.int) lo hi = (cutI ns lo hi).map V.int := by
  unfold cutV cutI
  rw [List.length_map, List.map_take, List.map_drop]
def shortL (ns : List Int) : List Int := cutI ns none (some 1) ++ [Mir.cell ns 1 % 4] ++ cutI ns (some 2) (some 8)
def wordsL (t : Int) (ns : List Int) : List Str := [Tx.nt t, "x"] ++ ns.map Tx.nt
theorem log_ok {i : Int} {k : Nat} (h0 : 1 ≤ i) (h : i < 2 ^ k) (hk : k ≤ 1920) : i.natAbs.log2 < 1920 := by
  have h1 : i.natAbs < 2 ^ k := by
    obtain ⟨m, rfl⟩ := Int.eq_ofNat_of_zero_le (show 0 ≤ i by omega)
    have : (m : Int) < ((2 ^ k : Nat) : Int) := by rw [Int.natCast_pow]; exact h
    exact Int.ofNat_lt.mp this
  exact Nat.lt_of_lt_of_le ((Nat.log2_lt (by omega)).mpr h1) hk
theorem fold_len {n : Nat} : ∀ {ws : List Str} {acc : Nat}, (∀ w ∈ ws, w.length ≤ n) → ws.foldl (fun a (w : Str) => a + w.length + Tx.sp.length) acc ≤ acc + ws.length * (n + 1)
  | [], acc, _ => by simp
  | w :: ws, acc, h => by
    rw [List.foldl_cons, List.length_cons, Nat.succ_mul]
    have h1 := fold_len (ws := ws) (acc := acc + w.length + Tx.sp.length) fun v hv => h v (List.mem_cons_of_mem _ hv)
    have h2 := h w List.mem_cons_self
    have h3 : Tx.sp.length = 1 := rfl
    rw [h3] at h1 ⊢
    omega
theorem join_ok9 {ws : List Str} (h : ∀ w ∈ ws, Tx.Wd 401 w) (hl : ws.length ≤ 9) : JoinOk Tx.sp ws = true := by
  have := fold_len (acc := 0) fun w hw => (h w hw).len
  unfold JoinOk
  have e : ws.toArray.foldl (fun a (w : Str) => a + w.length + Tx.sp.length) 0 = ws.foldl (fun a (w : Str) => a + w.length + Tx.sp.length) 0 := by simp
  rw [show ws.toArray.foldl (· + ·.length + Tx.sp.length) 0 = _ from e]
  have h8 : ws.length * 402 ≤ 9 * 402 := Nat.mul_le_mul_right _ hl
  generalize ws.foldl (fun a (w : Str) => a + w.length + Tx.sp.length) 0 = N at *
  have hs : sizeLine = 16777216 := rfl
  simp [Builtin.Str.tooLong]
  omega
theorem nt_wd {i : Int} (h0 : 1 ≤ i) (h : i < 2 ^ 636) : Tx.Wd 401 (Tx.nt i) := by
  obtain ⟨m, rfl⟩ := Int.eq_ofNat_of_zero_le (show 0 ≤ i by omega)
  have h1 : m < 2 ^ 636 := by
    have : (m : Int) < ((2 ^ 636 : Nat) : Int) := by rw [Int.natCast_pow]; exact h
    exact Int.ofNat_lt.mp this
  refine ⟨Nat.le_trans (Tx.dig_len (k := 400) (by decide) (Nat.lt_of_lt_of_le h1 (by decide +kernel))).2 (by decide), fun c hc => ?_⟩
  have := Tx.dig_all m c hc
  omega
def ntV : V → V
  | .int i => .str (Tx.nt i)
  | v => v
def TxV (v : V) : Prop := ∃ z, v = .str z ∧ Tx.Wd 13173268 z
theorem tx_cons {v : V} {vs : List V} (h : TxV v) (t : ∀ u ∈ vs, TxV u) : ∀ u ∈ v :: vs, TxV u := fun u hu => by
  rcases List.mem_cons.mp hu with rfl | hu
  · exact h
  · exact t u hu
theorem ix_pickT {H3 : Hp} {l3 : Addr} {xs : List V} {c n : Int} {Q : VK} (hn : 0 < n) (hx : H3 l3 = some (.lst xs)) (hl : (xs.length : Int) = n) (hall : ∀ v ∈ xs, TxV v) (q : ∀ z, Tx.Wd 13173268 z → Q (.str z) H3) : rIxL K (.ref l3) (.int (c % n)) H3 Q := by
  have h0 := Int.emod_nonneg c (show n ≠ 0 by omega)
  have h1 := Int.emod_lt_of_pos c hn
  obtain ⟨k, hk⟩ : ∃ k : Nat, c % n = (k : Int) := ⟨(c % n).toNat, by omega⟩
  have hkL : k < xs.length := by omega
  obtain ⟨z, hz, hwd⟩ := hall xs[k] (List.getElem_mem hkL)
  refine ⟨l3, xs, k, xs[k], rfl, by rw [hk], SqL.of hx, atI_nat (List.getElem?_eq_getElem hkL), ?_⟩
  rw [hz]
  exact q z hwd
theorem wd_sp : Tx.Wd 1 Tx.sp := ⟨Nat.le_refl 1, fun c hc => by
  have : c ∈ [32] := hc
  simp at this
  omega⟩
/-- behind the if -/
def Mid14 : St → Hp → Prop := fun σ' _ => ∃ (o0 o1 o2 o3 : Option V) (tx : Str), σ' = [o0, o1, o2, o3, some (.str tx), none, none, none] ∧ Tx.Wd 13173268 tx
theorem rd5 {X : Cx} {H : Hp} {p k : Addr} {b1 b2 b3 b4 b5 : Bool} (hp : H p = some (.tup [.non, .ref k])) (hk : H k = some (.lst [.bl b1, .bl b2, .bl b3, .bl b4, .bl b5])) : RdA X H (.ref p) (.tuple [.none, .list [.bool b1, .bool b2, .bool b3, .bool b4, .bool b5]]) :=
  rd_tup hp (.cons rd_non (.cons (rd_lst hk (.cons (rd_bl b1) (.cons (rd_bl b2) (.cons (rd_bl b3) (.cons (rd_bl b4) (.cons (rd_bl b5) .nil)))))) .nil))
theorem kit_tup_tup' (K : PySem.W.Frag) : PySem.W.kitOne K (.type "tuple") (.type "tuple") = some true := rfl
theorem cut_one (t : Int) (ns : List Int) : cutV ((t :: ns).map V.int) (some 1) none = ns.map V.int := by
  have := cut_drop ((t :: ns).map V.int) 1
  rw [show ((1 : Nat) : Int) = 1 from rfl] at this
  rw [this]
  rfl
theorem ok_law (T : Bl mg) (F : Fun K "law" "law" sLaw f fd) (Dc : Df P w K mg base 1 "_law_cell_at" ["script", "k"] (spCell K)) (Dd : Df P w K mg base 3 "_law_drawn" ["script"] (spDrawn K)) (Dt : Df P w K mg base 2 "_law_turned" ["words", "cell"] spTurned14) (Ddu : Df P w K mg base 2 "_law_due" ["text"] spDue14)
    (Dtr : Df P w K mg base 5 "_law_tried" ["text"] spTried14) (Di : Df P w K mg base 2 "_law_is_row" ["times", "row"] (spRow K)) (Dw : Df P w K mg base 1 "_law_whole" ["found"] spWhole) (Da : Df P w K mg base 2 "_law_alike" ["found", "due"] (spAlike K)) :
    FnOk P w K mg base CX0 6 f fd ["script"] (spLaw K) := by
  refine F.ok scLaw (fun vs H Q E h => ?_) (fun cdv A outer s H vs Q E hr h => ?_)
  · obtain ⟨a, ns, rfl, _⟩ := h
    rfl
  obtain ⟨a, ns, rfl, hS, h63, q⟩ := h
  refine ⟨_, pss_cons (ps_set (i := 1) scLaw.nd rfl (Or.inl rfl) (pe_op op_cat (pe_op op_cat (pe_callTy call_list_of rfl T.list PyProof.Rows.boot_list (pa_cons (pe_slice sl_list (pv 0) (po_none) (po_some (pe_int))) pa_nil)) (pe_lst (pa_cons (pe_op op_mod (pe_df Dc hr (by decide) rfl (pa_cons (pv 0) (pa_cons (pe_int) pa_nil))) (pe_int)) pa_nil))) (pe_callTy call_list_of rfl T.list PyProof.Rows.boot_list (pa_cons (pe_slice sl_list (pv 0) (po_some (pe_int)) (po_some (pe_int))) pa_nil))))
    (pss_cons (ps_set (i := 2) scLaw.nd rfl (Or.inl rfl) (pe_df Dd hr (by decide) rfl (pa_cons (pv 1) pa_nil)))
    (pss_cons (ps_set (i := 3) scLaw.nd rfl (Or.inl rfl) (pe_op op_cat (pe_lst (pa_cons (pe_callTy call_str_int rfl T.str PyProof.Rows.boot_str (pa_cons (pe_ix ix_tup (pv 2) (pe_int) (fun _ _ => rfl)) pa_nil)) (pa_cons (pe_str) pa_nil))) (pe_comp (caps := []) ⟨rfl, rfl, rfl, rfl, by decide +kernel, rfl⟩ rfl (pi_list (pe_ix ix_tup (pv 2) (pe_int) (fun _ _ => rfl))) (fun _ _ _ => pif_nil) (fun _ _ _ => pe_callTy call_str_int rfl T.str PyProof.Rows.boot_str (pa_cons (pv 0) pa_nil)))))
    (pss_cons (ps_set (i := 4) scLaw.nd rfl (Or.inl rfl) (pe_bm PySem.F.plainAttrs_str PySem.F.slot_str_join PySem.F.type_str_join mt_join (pe_str) (pa_cons (pe_df Dt hr (by decide) rfl (pa_cons (pv 3) (pa_cons (pe_df Dc hr (by decide) rfl (pa_cons (pv 0) (pa_cons (pe_int) pa_nil))) pa_nil))) pa_nil)))
    (pss_cut (Mid14) (ps_if (pt_cmpR op_eq (pe_op op_mod (pe_df Dc hr (by decide) rfl (pa_cons (pv 0) (pa_cons (pe_int) pa_nil))) (pe_int)) (pe_int) (nomark _)) (pss_one (ps_set (i := 4) scLaw.nd rfl (Or.inl rfl) (pe_ix ix_list (pe_lst (pa_cons (pe_op op_add_str (pe_str) (pv 4)) (pa_text (i := 4) rfl (Or.inl rfl) rfl rfl) rfl)) (pe_op op_mod (pe_op op_fdiv (pe_df Dc hr (by decide) rfl (pa_cons (pv 0) (pa_cons (pe_int) pa_nil))) (pe_int)) (pe_int)) (fun _ _ => rfl)))) (pss_nil))
    (pss_cons (ps_set (i := 5) scLaw.nd rfl (Or.inl rfl) (pe_df Ddu hr (by decide) rfl (pa_cons (pv 4) pa_nil)))
    (pss_cons (ps_set (i := 6) scLaw.nd rfl (Or.inl rfl) (pe_df Dtr hr (by decide) rfl (pa_cons (pv 4) pa_nil)))
    (pss_cons (ps_if (pt_cmpR op_isN (pv 5) (pe_non) (nomark _)) (pss_one (ps_ret (pe_cmpR (op_eqD (u70 hr)) (pv 6) (pe_tup (pa_cons (pe_non) (pa_cons (pe_lst (pa_cons (pe_bl) (pa_cons (pe_bl) (pa_cons (pe_bl) (pa_cons (pe_bl) (pa_cons (pe_bl) pa_nil)))))) pa_nil))) (nomark _)))) (pss_nil))
    (pss_cons (ps_if (pt_not (pt_val (pe_df Di hr (by decide) rfl (pa_cons (pe_ix ix_list (pv 5) (pe_int) (fun _ _ => rfl)) (pa_cons (pe_slice sl_list (pv 5) (po_some (pe_int)) (po_none)) pa_nil))))) (pss_one (ps_ret (pe_cmpR (op_eqD (u70 hr)) (pv 6) (pe_tup (pa_cons (pe_non) (pa_cons (pe_lst (pa_cons (pe_bl) (pa_cons (pe_bl) (pa_cons (pe_bl) (pa_cons (pe_bl) (pa_cons (pe_bl) pa_nil)))))) pa_nil))) (nomark _)))) (pss_nil))
    (pss_cons (ps_set (i := 7) scLaw.nd rfl (Or.inl rfl) (pe_ix ix_tup (pv 6) (pe_int) (fun _ _ => rfl)))
    (pss_cons (ps_if (PW.pt (pw_or (pt_cmpR (op_neL hr.units) (pe_ix ix_tup (pv 6) (pe_int) (fun _ _ => rfl)) (pe_lst (pa_nil)) (nomark _)) (pw_or (pt_not (pt_val (pe_callB call_isinst rfl T.isinstance PyProof.Rows.boot_isinstance (pa_cons (pv 7) (pa_cons (pe_bltn rfl T.tuple PyProof.Rows.boot_tuple (v := .ty "tuple") rfl) pa_nil))))) (pw_or (pt_cmpR op_ne (pe_callB call_len_seq rfl T.len PySem.boot_len (pa_cons (pv 7) pa_nil)) (pe_int) (nomark _)) (pw_or1 (pt_not (pt_val (pe_df Dw hr (by decide) rfl (pa_cons (pe_ix ix_tup (pv 7) (pe_int) (fun _ _ => rfl)) pa_nil))))))))) (pss_one (ps_ret (pe_bl))) (pss_nil))
    (pss_one (ps_ret (pe_and (pe_cmpR op_eq (pe_ix ix_tup (pv 7) (pe_int) (fun _ _ => rfl)) (pe_ix ix_list (pv 5) (pe_int) (fun _ _ => rfl)) (nomark _)) (pe_one (pe_df Da hr (by decide) rfl (pa_cons (pe_ix ix_tup (pv 7) (pe_int) (fun _ _ => rfl)) (pa_cons (pe_slice sl_list (pv 5) (po_some (pe_int)) (po_none)) pa_nil))))))))))))))))), ?_⟩
  have hs0 : sizeLine = 16777216 := rfl
  have hml : (ns.map V.int).length = ns.length := List.length_map _
  have c1 := cutV_length (ns.map V.int) none (some 1)
  have c2 := cutV_length (ns.map V.int) (some 2) (some 8)
  -- short
  refine ⟨_, rfl, _, rfl, a, _, rfl, hS, fun p1 h1 => ?_⟩
  have g1 := same_new h1 (.lst (cutV (ns.map V.int) none (some 1)))
  refine ⟨p1, _, rfl, .inl (SqL.of upd_same), fun p2 h2 => ?_⟩
  have g2 := g1.trans (same_new h2 (.lst (cutV (ns.map V.int) none (some 1))))
  have hp2 : (upd (upd H p1 (.lst (cutV (ns.map V.int) none (some 1)))) p2 (.lst (cutV (ns.map V.int) none (some 1)))) p2 = some (.lst (cutV (ns.map V.int) none (some 1))) := upd_same
  generalize upd (upd H p1 (.lst (cutV (ns.map V.int) none (some 1)))) p2 (.lst (cutV (ns.map V.int) none (some 1))) = H2 at g2 hp2
  refine ⟨_, rfl, a, ns, 1, rfl, g2.seq hS, by decide, _, _, rfl, rfl, (by show (0 : Int) < 4; decide), (by show 1 ≤ sizeLine; decide), fun p3 h3 => ?_⟩
  have g3 := same_new h3 (.lst [.int (ns.getD 1 0 % 4)])
  refine ⟨p2, p3, _, _, rfl, rfl, g3 _ _ hp2, upd_same, ?_, fun p4 h4 => ?_⟩
  · show (cutV (ns.map V.int) none (some 1)).length + 1 ≤ sizeLine
    omega
  have g4 := (g2.trans g3).trans (same_new h4 (.lst (cutV (ns.map V.int) none (some 1) ++ [.int (ns.getD 1 0 % 4)])))
  refine ⟨_, rfl, _, rfl, _, rfl, a, _, rfl, g4.seq hS, fun p5 h5 => ?_⟩
  have g5 := same_new h5 (.lst (cutV (ns.map V.int) (some 2) (some 8)))
  refine ⟨p5, _, rfl, .inl (SqL.of upd_same), fun p6 h6 => ?_⟩
  have g6 := same_new h6 (.lst (cutV (ns.map V.int) (some 2) (some 8)))
  refine ⟨p4, p6, _, _, rfl, rfl, g6 _ _ (g5 _ _ upd_same), upd_same, ?_, fun sh h7 => ?_⟩
  · rw [List.length_append]
    show (cutV (ns.map V.int) none (some 1)).length + 1 + (cutV (ns.map V.int) (some 2) (some 8)).length ≤ sizeLine
    omega
  have g7 := ((g4.trans g5).trans g6).trans (same_new h7 (.lst ((cutV (ns.map V.int) none (some 1) ++ [.int (ns.getD 1 0 % 4)]) ++ cutV (ns.map V.int) (some 2) (some 8))))
  refine ⟨_, rfl, sh, shortL ns, rfl, SqL.of ?_, fun p r H8 hrn g8 hp hl => ?_⟩
  · rw [upd_same, cut_ints, cut_ints]
    unfold shortL
    rw [List.map_append, List.map_append]
    rfl
  have gA := g7.trans g8
  clear g1 g2 g3 g4 g5 g6 g7
  obtain ⟨B, hA, hB, htt, hrow⟩ := drawn_arg (shortL ns)
  have hsm := Mir.drawn_small (shortL ns)
  have ht1 : 1 ≤ Mir.drawnT (shortL ns) := (Mir.tab_ok _ (Mir.root_mem (Mir.cell (shortL ns) 0))).1.1
  generalize Mir.drawnT (shortL ns) = t at hp htt hrow hA ht1
  generalize Mir.drawnR (shortL ns) = row at hl hrow hA hsm
  have hlo := hA.lo
  have hhi := hA.hi
  have hns : ∀ x ∈ row, 1 ≤ x ∧ x < 2 ^ 636 := fun x hx => ⟨hrow.pos x hx, hsm x hx⟩
  -- words
  refine ⟨_, rfl, p, _, _, _, rfl, rfl, SqT.of hp, tup0 _ _, t, rfl, log_ok (k := 10) ht1 (by omega) (by decide), (by show 2 ≤ sizeLine; decide), fun l hl0 => ?_⟩
  have g9 := same_new hl0 (.lst [.str (Tx.nt t), .str "x"])
  have hr9 : SqL K _ r (row.map V.int) := Ls.sq (g9 _ _ hl)
  refine ⟨_, rfl, p, _, _, _, rfl, rfl, SqT.of (g9 _ _ hp), tup1 _ _, r, rfl, ⟨_, hr9⟩, comp_scal src_list hr9 (fun H' gg => gg.seq hr9) (by rw [List.length_map]; exact Nat.le_of_lt (small1000 (by omega))) ntV (fun v H' Q' hv g k => ?_) (fun D H9 hD g e => ?_)⟩
  · obtain ⟨i, hi, rfl⟩ := List.mem_map.mp hv
    obtain ⟨h1, h2⟩ := hns i hi
    exact ⟨_, rfl, i, rfl, log_ok h1 h2 (by decide), k H' (Same.refl _)⟩
  have hl' := g _ _ upd_same
  have e' : H9 D = some (.lst ((row.map Tx.nt).map V.str)) := by rw [e, List.map_map, List.map_map]; rfl
  refine ⟨l, D, _, _, rfl, rfl, hl', e', Nat.le_of_lt (small1000 (by rw [List.length_map, List.length_map]; show 2 + row.length ≤ 1000; omega)), fun W hW => ?_⟩
  have eW : [V.str (Str.ofString (toString t)), V.str "x"] ++ (row.map Tx.nt).map V.str = (wordsL t row).map V.str := by unfold wordsL; rw [List.map_append]; rfl
  rw [eW]
  have gB := ((gA.trans g9).trans g).trans (same_new hW (.lst ((wordsL t row).map V.str)))
  have hWl : upd H9 W (.lst ((wordsL t row).map V.str)) W = some (.lst ((wordsL t row).map V.str)) := upd_same
  generalize upd H9 W (.lst ((wordsL t row).map V.str)) = HW at gB hWl
  have hwl : (wordsL t row).length = row.length + 2 := by unfold wordsL; rw [List.length_append, List.length_map]; show 2 + _ = _; omega
  have hww : ∀ y ∈ wordsL t row, Tx.Wd 401 y := fun y hy => by
    unfold wordsL at hy
    rcases List.mem_append.mp hy with z | z
    · rcases List.mem_cons.mp z with rfl | z
      · exact nt_wd ht1 (Int.lt_of_lt_of_le (show t < 2 ^ 10 by omega) (by decide +kernel))
      · rw [List.mem_singleton.mp z]
        exact ⟨by decide, fun c hc => by
          have : c ∈ [120] := hc
          simp at this
          omega⟩
    · obtain ⟨i, hi, rfl⟩ := List.mem_map.mp z
      exact nt_wd (hns i hi).1 (hns i hi).2
  -- text
  refine ⟨rfl, _, rfl, _, rfl, a, ns, 9, rfl, gB.seq hS, by decide, W, wordsL t row, _, rfl, hWl, by omega, by omega, hww, fun D2 us H3 g3 hD2 hus huw => ?_⟩
  refine ⟨Tx.sp, D2, us, rfl, rfl, SqL.of hD2, join_ok9 huw hus, ?_⟩
  rw [Tx.glued_join]
  have hwT : Tx.Wd 3627 (Str.join Tx.sp us) := (Tx.join_wd (wd_sp.mono (by decide)) huw).mono (Nat.mul_le_mul_right 403 hus)
  generalize Str.join Tx.sp us = tx at hwT
  have gC := gB.trans g3
  have hlt := hwT.len
  refine ⟨⟨_, rfl, a, ns, 10, rfl, gC.seq hS, by decide, _, _, rfl, rfl, (by show (0 : Int) < 9; decide), rfl, _, rfl, iteD (fun c => ?_) (fun c => ?_)⟩, fun σ' H' m => ?_⟩
  · refine ⟨_, rfl, _, _, rfl, rfl, ?_, tx, rfl, ?_, ?_, rfl, (by show 4 ≤ sizeLine; decide), fun l4 hl4 => ?_⟩
    · show 1 + tx.length ≤ sizeLine; omega
    · show tx.length + 1 ≤ sizeLine; omega
    · show tx.length + (tx.length + 1) * 2 ≤ 16777216; omega
    refine ⟨_, rfl, a, ns, 10, rfl, (gC.trans (same_new hl4 _)).seq hS, by decide, _, _, rfl, rfl, ⟨(by show (0 : Int) < 9; decide), (by show (9 : Int) < 1073741824; decide)⟩, _, _, rfl, rfl, (by show (0 : Int) < 4; decide), ?_⟩
    refine ix_pickT (by decide) upd_same rfl (tx_cons ⟨_, rfl, ?_⟩ (tx_cons ⟨_, rfl, ?_⟩ (tx_cons ⟨_, rfl, ?_⟩ (tx_cons ⟨_, rfl, ?_⟩ fun u hu => nomatch hu)))) fun z hz => ⟨_, _, _, _, z, rfl, hz⟩
    · exact (wd_sp.app hwT).mono (by decide)
    · exact (hwT.app wd_sp).mono (by decide)
    · exact (Tx.rep_wd hwT).mono (by decide)
    · exact ⟨Nat.zero_le _, fun c hc => nomatch (show c ∈ ([] : List Nat) from hc)⟩
  · exact ⟨_, _, _, _, tx, rfl, hwT.mono (by decide)⟩
  clear hlt hwT gC hD2 g3 hww hwl hWl gB hl' e' e g
  obtain ⟨o0, o1, o2, o3, tx', rfl, hw⟩ := m
  cases hg : goodB (Txt.split tx' Tx.sp) with
  | false =>
    refine ⟨_, rfl, tx', rfl, hw, fun _ H4 g4 => ?_, fun z => by rw [hg] at z; cases z⟩
    refine ⟨_, rfl, tx', rfl, hw, fun _ p3 k3 H5 g5 hp3 hk3 => ?_, (fun z => by rw [hg] at z; cases z), fun z => by rw [hg] at z; cases z⟩
    refine ⟨_, rfl, rfl, _, rfl, ?_⟩
    rw [decide_eq_true rfl]
    refine iteT ?_
    refine ⟨_, rfl, (by show 5 ≤ sizeLine; decide), fun lb hlb => ⟨(by show 2 ≤ sizeLine; decide), fun tp2 htp2 => ?_⟩⟩
    have g7 := same_new hlb (.lst [.bl true, .bl false, .bl false, .bl false, .bl true])
    have g8 := same_new htp2 (.tup [.non, .ref lb])
    have g78 := g7.trans g8
    refine ⟨_, _, rd5 (g78 _ _ hp3) (g78 _ _ hk3), rd5 upd_same (g8 _ _ upd_same), by decide, by decide, by decide, ?_⟩
    exact q _
  | true =>
    refine ⟨_, rfl, tx', rfl, hw, (fun z => by rw [hg] at z; cases z), fun _ D4 H4 g4 hD4 => ?_⟩
    have hA4 := good_arg hg
    generalize hT : tOf (Txt.split tx' Tx.sp) = t4 at hD4 hA4
    generalize hN : nsOf (Txt.split tx' Tx.sp) = n4 at hD4 hA4
    cases hrow4 : Mir.isRow t4 n4 with
    | false =>
      refine ⟨_, rfl, tx', rfl, hw, (fun z => by rw [hg] at z; cases z), fun _ _ p3 k3 H5 g5 hp3 hk3 => ?_, fun _ z => by rw [hT, hN, hrow4] at z; cases z⟩
      refine ⟨_, rfl, rfl, _, rfl, ?_⟩
      rw [decide_eq_false (fun z => by cases z)]
      have hD5 : Ls H5 D4 (t4 :: n4) := g5 _ _ hD4
      refine iteF ⟨_, rfl, D4, _, _, _, rfl, rfl, hD5.sq, atI_nat (j := 0) (rfl : ((t4 :: n4).map V.int)[0]? = some (.int t4)), _, rfl, _, rfl, D4, _, rfl, hD5.sq, fun S hSn => ?_⟩
      rw [cut_one]
      have g6 := same_new hSn (.lst (n4.map V.int))
      refine ⟨t4, S, n4, 1400, rfl, SqL.of upd_same, hA4.t, hA4.bd, hA4.z2, hA4.zr, hA4.pos, hA4.lt, fun H6 g6' => ⟨_, rfl, ?_⟩⟩
      rw [hrow4]
      have g6 := g6.trans g6'
      refine iteT ?_
      refine ⟨_, rfl, (by show 5 ≤ sizeLine; decide), fun lb hlb => ⟨(by show 2 ≤ sizeLine; decide), fun tp2 htp2 => ?_⟩⟩
      have g7 := same_new hlb (.lst [.bl false, .bl true, .bl false, .bl false, .bl true])
      have g8 := same_new htp2 (.tup [.non, .ref lb])
      have g78 := (g6.trans g7).trans g8
      refine ⟨_, _, rd5 (g78 _ _ hp3) (g78 _ _ hk3), rd5 upd_same (g8 _ _ upd_same), by decide, by decide, by decide, ?_⟩
      exact q _
    | true =>
      refine ⟨_, rfl, tx', rfl, hw, (fun z => by rw [hg] at z; cases z), (fun _ z => by rw [hT, hN, hrow4] at z; cases z), fun _ _ p3 k3 o4 r4 H5 g5 hp3 hk3 ho4 hr4 => ?_⟩
      rw [hT] at ho4
      rw [hN] at hr4
      refine ⟨_, rfl, rfl, _, rfl, ?_⟩
      rw [decide_eq_false (fun z => by cases z)]
      have hD5 : Ls H5 D4 (t4 :: n4) := g5 _ _ hD4
      refine iteF ⟨_, rfl, D4, _, _, _, rfl, rfl, hD5.sq, atI_nat (j := 0) (rfl : ((t4 :: n4).map V.int)[0]? = some (.int t4)), _, rfl, _, rfl, D4, _, rfl, hD5.sq, fun S hSn => ?_⟩
      rw [cut_one]
      have g6 := same_new hSn (.lst (n4.map V.int))
      refine ⟨t4, S, n4, 1400, rfl, SqL.of upd_same, hA4.t, hA4.bd, hA4.z2, hA4.zr, hA4.pos, hA4.lt, fun H6 g6' => ⟨_, rfl, ?_⟩⟩
      rw [hrow4]
      have g6 := g6.trans g6'
      refine iteF ?_
      have hp6 := g6 _ _ hp3
      have hk6 := g6 _ _ hk3
      have ho6 := g6 _ _ ho4
      have hr6 : Ls H6 r4 n4 := g6 _ _ hr4
      have hD6 : Ls H6 D4 (t4 :: n4) := g6 _ _ hD5
      have h6 := hA4.hi
      refine ⟨_, rfl, p3, _, _, _, rfl, rfl, SqT.of hp6, tup0 _ _, ?_⟩
      refine ⟨_, rfl, p3, _, _, _, rfl, rfl, SqT.of hp6, tup1 _ _, (by show 0 ≤ sizeLine; decide), fun e0 he0 => ?_⟩
      have g7 := same_new he0 (.lst [])
      have ho7 := g7 _ _ ho6
      have hr7 : Ls _ r4 n4 := g7 _ _ hr6
      have hD7 : Ls _ D4 (t4 :: n4) := g7 _ _ hD6
      refine ⟨k3, e0, [], [], rfl, rfl, SqL.of (g7 _ _ hk6), SqL.of upd_same, _, rfl, ?_⟩
      rw [decide_eq_true rfl]
      refine iteF ⟨_, rfl, _, _, _, _, rfl, .tup ho7, kit_tup_tup' K, _, rfl, iteF ?_⟩
      refine ⟨_, rfl, o4, _, rfl, .inr (SqT.of ho7), rfl, _, rfl, ?_⟩
      rw [decide_eq_true (show V.int (([V.int t4, V.ref r4].length : Nat) : Int) = V.int 2 from rfl)]
      refine iteF ⟨_, rfl, o4, _, _, _, rfl, rfl, SqT.of ho7, tup0 _ _, t4, rfl, _, rfl, iteF ?_⟩
      refine ⟨_, rfl, o4, _, _, _, rfl, rfl, SqT.of ho7, tup0 _ _, _, rfl, D4, _, _, _, rfl, rfl, hD7.sq, atI_nat (j := 0) (rfl : ((t4 :: n4).map V.int)[0]? = some (.int t4)), rfl, _, rfl, ?_⟩
      rw [decide_eq_true rfl]
      refine iteT ⟨_, rfl, o4, _, _, _, rfl, rfl, SqT.of ho7, tup1 _ _, _, rfl, _, rfl, D4, _, rfl, hD7.sq, fun S2 hS2 => ?_⟩
      rw [cut_one]
      have g8 := same_new hS2 (.lst (n4.map V.int))
      refine ⟨r4, S2, n4, n4, rfl, g8 _ _ hr7, SqL.of upd_same, by omega, ?_⟩
      rw [decide_eq_true rfl]
      exact q _
end
end Z
end

section
set_option Elab.async false
set_option linter.all false
set_option maxRecDepth 100000
namespace Z
open PySem L2
set_option maxHeartbeats 0 in
theorem all_mk {l : PySem.W.OpenLaw} {w : World} {K : PySem.W.Frag} {h : Heap} {mg : Str → Option Value} {fa cE cN cP cS cB f1 f2 f3 f4 f5 f6 f7 f8 f9 f10 f11 f12 f13 f14 f15 f16 f17 f18 f19 f20 f21 : Addr} (X : K.In h) (G : h.Ns mainGlobals mg) (hfa : mg "law" = some (.ref fa))
    {od1 an1 od2 an2 od3 an3 od4 an4 od5 an5 od6 an6 od7 an7 od8 an8 od9 an9 od10 an10 od11 an11 od12 an12 od13 an13 od14 an14 od15 an15 od16 an16 od17 an17 od18 an18 od19 an19 od20 an20 od21 an21 : Option Addr} {sl1 sl2 sl3 sl4 sl5 sl6 sl7 sl8 sl9 sl10 sl11 sl12 sl13 sl14 sl15 sl16 sl17 sl18 sl19 sl20 sl21 : Array (Option Value)} {oc1 kV1 dc1 pm1 cd1 ct1 oc2 kV2 dc2 pm2 cd2 ct2 oc3 kV3 dc3 pm3 cd3 ct3 oc4 kV4 dc4 pm4 cd4 ct4 oc5 kV5 dc5 pm5 cd5 ct5 oc6 kV6 dc6 pm6 cd6 ct6 oc7 kV7 dc7 pm7 cd7 ct7 oc8 kV8 dc8 pm8 cd8 ct8 oc9 kV9 dc9 pm9 cd9 ct9 oc10 kV10 dc10 pm10 cd10 ct10 oc11 kV11 dc11 pm11 cd11 ct11 oc12 kV12 dc12 pm12 cd12 ct12 oc13 kV13 dc13 pm13 cd13 ct13 oc14 kV14 dc14 pm14 cd14 ct14 oc15 kV15 dc15 pm15 cd15 ct15 oc16 kV16 dc16 pm16 cd16 ct16 oc17 kV17 dc17 pm17 cd17 ct17 oc18 kV18 dc18 pm18 cd18 ct18 oc19 kV19 dc19 pm19 cd19 ct19 oc20 kV20 dc20 pm20 cd20 ct20 oc21 kV21 dc21 pm21 cd21 ct21 : Value}
    (a1 : PySem.W.nsIn K mainGlobals "product" = some (some (.ref f1))) (l1 : K.lookup f1 = some ⟨oc1, od1, .func (PySem.W.fnOf "product" "product" (defArgs sProduct) (defBody sProduct) (defScope sProduct) .none kV1 dc1 pm1 an1 cd1 ct1), sl1⟩) (c1 : PySem.W.codeIn K cd1 "product" = true) (k1 : PySem.W.keepIn K (.ref f1) = true)
    (a2 : PySem.W.nsIn K mainGlobals "square_sum" = some (some (.ref f2))) (l2 : K.lookup f2 = some ⟨oc2, od2, .func (PySem.W.fnOf "square_sum" "square_sum" (defArgs sSquareSum) (defBody sSquareSum) (defScope sSquareSum) .none kV2 dc2 pm2 an2 cd2 ct2), sl2⟩) (c2 : PySem.W.codeIn K cd2 "square_sum" = true) (k2 : PySem.W.keepIn K (.ref f2) = true)
    (a3 : PySem.W.nsIn K mainGlobals "holds" = some (some (.ref f3))) (l3 : K.lookup f3 = some ⟨oc3, od3, .func (PySem.W.fnOf "holds" "holds" (defArgs sHolds) (defBody sHolds) (defScope sHolds) .none kV3 dc3 pm3 an3 cd3 ct3), sl3⟩) (c3 : PySem.W.codeIn K cd3 "holds" = true) (k3 : PySem.W.keepIn K (.ref f3) = true)
    (a4 : PySem.W.nsIn K mainGlobals "must_hold" = some (some (.ref f4))) (l4 : K.lookup f4 = some ⟨oc4, od4, .func (PySem.W.fnOf "must_hold" "must_hold" (defArgs sMustHold) (defBody sMustHold) (defScope sMustHold) .none kV4 dc4 pm4 an4 cd4 ct4), sl4⟩) (c4 : PySem.W.codeIn K cd4 "must_hold" = true) (k4 : PySem.W.keepIn K (.ref f4) = true)
    (a5 : PySem.W.nsIn K mainGlobals "is_number" = some (some (.ref f5))) (l5 : K.lookup f5 = some ⟨oc5, od5, .func (PySem.W.fnOf "is_number" "is_number" (defArgs sIsNumber) (defBody sIsNumber) (defScope sIsNumber) .none kV5 dc5 pm5 an5 cd5 ct5), sl5⟩) (c5 : PySem.W.codeIn K cd5 "is_number" = true) (k5 : PySem.W.keepIn K (.ref f5) = true)
    (a6 : PySem.W.nsIn K mainGlobals "number_of" = some (some (.ref f6))) (l6 : K.lookup f6 = some ⟨oc6, od6, .func (PySem.W.fnOf "number_of" "number_of" (defArgs sNumberOf) (defBody sNumberOf) (defScope sNumberOf) .none kV6 dc6 pm6 an6 cd6 ct6), sl6⟩) (c6 : PySem.W.codeIn K cd6 "number_of" = true) (k6 : PySem.W.keepIn K (.ref f6) = true)
    (a7 : PySem.W.nsIn K mainGlobals "read" = some (some (.ref f7))) (l7 : K.lookup f7 = some ⟨oc7, od7, .func (PySem.W.fnOf "read" "read" (defArgs sRead) (defBody sRead) (defScope sRead) .none kV7 dc7 pm7 an7 cd7 ct7), sl7⟩) (c7 : PySem.W.codeIn K cd7 "read" = true) (k7 : PySem.W.keepIn K (.ref f7) = true)
    (a8 : PySem.W.nsIn K mainGlobals "_law_cell_at" = some (some (.ref f8))) (l8 : K.lookup f8 = some ⟨oc8, od8, .func (PySem.W.fnOf "_law_cell_at" "_law_cell_at" (defArgs sCellAt) (defBody sCellAt) (defScope sCellAt) .none kV8 dc8 pm8 an8 cd8 ct8), sl8⟩) (c8 : PySem.W.codeIn K cd8 "_law_cell_at" = true) (k8 : PySem.W.keepIn K (.ref f8) = true)
    (a9 : PySem.W.nsIn K mainGlobals "_law_whole" = some (some (.ref f9))) (l9 : K.lookup f9 = some ⟨oc9, od9, .func (PySem.W.fnOf "_law_whole" "_law_whole" (defArgs sWhole) (defBody sWhole) (defScope sWhole) .none kV9 dc9 pm9 an9 cd9 ct9), sl9⟩) (c9 : PySem.W.codeIn K cd9 "_law_whole" = true) (k9 : PySem.W.keepIn K (.ref f9) = true)
    (a10 : PySem.W.nsIn K mainGlobals "_law_product" = some (some (.ref f10))) (l10 : K.lookup f10 = some ⟨oc10, od10, .func (PySem.W.fnOf "_law_product" "_law_product" (defArgs sLProduct) (defBody sLProduct) (defScope sLProduct) .none kV10 dc10 pm10 an10 cd10 ct10), sl10⟩) (c10 : PySem.W.codeIn K cd10 "_law_product" = true) (k10 : PySem.W.keepIn K (.ref f10) = true)
    (a11 : PySem.W.nsIn K mainGlobals "_law_near" = some (some (.ref f11))) (l11 : K.lookup f11 = some ⟨oc11, od11, .func (PySem.W.fnOf "_law_near" "_law_near" (defArgs sNear) (defBody sNear) (defScope sNear) .none kV11 dc11 pm11 an11 cd11 ct11), sl11⟩) (c11 : PySem.W.codeIn K cd11 "_law_near" = true) (k11 : PySem.W.keepIn K (.ref f11) = true)
    (a12 : PySem.W.nsIn K mainGlobals "_law_is_row" = some (some (.ref f12))) (l12 : K.lookup f12 = some ⟨oc12, od12, .func (PySem.W.fnOf "_law_is_row" "_law_is_row" (defArgs sIsRow) (defBody sIsRow) (defScope sIsRow) .none kV12 dc12 pm12 an12 cd12 ct12), sl12⟩) (c12 : PySem.W.codeIn K cd12 "_law_is_row" = true) (k12 : PySem.W.keepIn K (.ref f12) = true)
    (a13 : PySem.W.nsIn K mainGlobals "_law_alike" = some (some (.ref f13))) (l13 : K.lookup f13 = some ⟨oc13, od13, .func (PySem.W.fnOf "_law_alike" "_law_alike" (defArgs sAlike) (defBody sAlike) (defScope sAlike) .none kV13 dc13 pm13 an13 cd13 ct13), sl13⟩) (c13 : PySem.W.codeIn K cd13 "_law_alike" = true) (k13 : PySem.W.keepIn K (.ref f13) = true)
    (a14 : PySem.W.nsIn K mainGlobals "_law_root_by" = some (some (.ref f14))) (l14 : K.lookup f14 = some ⟨oc14, od14, .func (PySem.W.fnOf "_law_root_by" "_law_root_by" (defArgs sRootBy) (defBody sRootBy) (defScope sRootBy) .none kV14 dc14 pm14 an14 cd14 ct14), sl14⟩) (c14 : PySem.W.codeIn K cd14 "_law_root_by" = true) (k14 : PySem.W.keepIn K (.ref f14) = true)
    (a15 : PySem.W.nsIn K mainGlobals "_law_drawn" = some (some (.ref f15))) (l15 : K.lookup f15 = some ⟨oc15, od15, .func (PySem.W.fnOf "_law_drawn" "_law_drawn" (defArgs sDrawn) (defBody sDrawn) (defScope sDrawn) .none kV15 dc15 pm15 an15 cd15 ct15), sl15⟩) (c15 : PySem.W.codeIn K cd15 "_law_drawn" = true) (k15 : PySem.W.keepIn K (.ref f15) = true)
    (a16 : PySem.W.nsIn K mainGlobals "_law_odd" = some (some (.ref f16))) (l16 : K.lookup f16 = some ⟨oc16, od16, .func (PySem.W.fnOf "_law_odd" "_law_odd" (defArgs sOdd) (defBody sOdd) (defScope sOdd) .none kV16 dc16 pm16 an16 cd16 ct16), sl16⟩) (c16 : PySem.W.codeIn K cd16 "_law_odd" = true) (k16 : PySem.W.keepIn K (.ref f16) = true)
    (a17 : PySem.W.nsIn K mainGlobals "_law_turned" = some (some (.ref f17))) (l17 : K.lookup f17 = some ⟨oc17, od17, .func (PySem.W.fnOf "_law_turned" "_law_turned" (defArgs sTurned) (defBody sTurned) (defScope sTurned) .none kV17 dc17 pm17 an17 cd17 ct17), sl17⟩) (c17 : PySem.W.codeIn K cd17 "_law_turned" = true) (k17 : PySem.W.keepIn K (.ref f17) = true)
    (a18 : PySem.W.nsIn K mainGlobals "_law_number" = some (some (.ref f18))) (l18 : K.lookup f18 = some ⟨oc18, od18, .func (PySem.W.fnOf "_law_number" "_law_number" (defArgs sLNumber) (defBody sLNumber) (defScope sLNumber) .none kV18 dc18 pm18 an18 cd18 ct18), sl18⟩) (c18 : PySem.W.codeIn K cd18 "_law_number" = true) (k18 : PySem.W.keepIn K (.ref f18) = true)
    (a19 : PySem.W.nsIn K mainGlobals "_law_due" = some (some (.ref f19))) (l19 : K.lookup f19 = some ⟨oc19, od19, .func (PySem.W.fnOf "_law_due" "_law_due" (defArgs sDue) (defBody sDue) (defScope sDue) .none kV19 dc19 pm19 an19 cd19 ct19), sl19⟩) (c19 : PySem.W.codeIn K cd19 "_law_due" = true) (k19 : PySem.W.keepIn K (.ref f19) = true)
    (a20 : PySem.W.nsIn K mainGlobals "_law_tried" = some (some (.ref f20))) (l20 : K.lookup f20 = some ⟨oc20, od20, .func (PySem.W.fnOf "_law_tried" "_law_tried" (defArgs sTried) (defBody sTried) (defScope sTried) .none kV20 dc20 pm20 an20 cd20 ct20), sl20⟩) (c20 : PySem.W.codeIn K cd20 "_law_tried" = true) (k20 : PySem.W.keepIn K (.ref f20) = true)
    (a21 : PySem.W.nsIn K mainGlobals "law" = some (some (.ref f21))) (l21 : K.lookup f21 = some ⟨oc21, od21, .func (PySem.W.fnOf "law" "law" (defArgs sLaw) (defBody sLaw) (defScope sLaw) .none kV21 dc21 pm21 an21 cd21 ct21), sl21⟩) (c21 : PySem.W.codeIn K cd21 "law" = true) (k21 : PySem.W.keepIn K (.ref f21) = true)
    (z1 : PySem.W.nsIn K mainGlobals "len" = some none)
    (z2 : PySem.W.nsIn K mainGlobals "range" = some none)
    (z3 : PySem.W.nsIn K mainGlobals "list" = some none)
    (z4 : PySem.W.nsIn K mainGlobals "sum" = some none)
    (z5 : PySem.W.nsIn K mainGlobals "any" = some none)
    (z6 : PySem.W.nsIn K mainGlobals "all" = some none)
    (z7 : PySem.W.nsIn K mainGlobals "sorted" = some none)
    (z8 : PySem.W.nsIn K mainGlobals "min" = some none)
    (z9 : PySem.W.nsIn K mainGlobals "max" = some none)
    (z10 : PySem.W.nsIn K mainGlobals "isinstance" = some none)
    (z11 : PySem.W.nsIn K mainGlobals "int" = some none)
    (z12 : PySem.W.nsIn K mainGlobals "bool" = some none)
    (z13 : PySem.W.nsIn K mainGlobals "tuple" = some none)
    (z14 : PySem.W.nsIn K mainGlobals "str" = some none)
    (z15 : PySem.W.nsIn K mainGlobals "set" = some none)
    (aE : PySem.W.nsIn K mainGlobals "RowError" = some (some (.ref cE)))
    (aN : PySem.W.nsIn K mainGlobals "NoRow" = some (some (.ref cN)))
    (aP : PySem.W.nsIn K mainGlobals "NoPlace" = some (some (.ref cP)))
    (aS : PySem.W.nsIn K mainGlobals "NoSuch" = some (some (.ref cS)))
    (aB : PySem.W.nsIn K mainGlobals "BadText" = some (some (.ref cB)))
    (x1E : PySem.W.excIn K cE veM "ValueError.__new__" = true)
    (x2E : PySem.W.findIn K (.ref cE) "__getattribute__" = some (some (.builtin "BaseException.__getattribute__")))
    (x3E : PySem.W.findIn K (.ref cE) "__getattr__" = some none)
    (x4E : PySem.W.findIn K (.ref cE) "__class__" = some (some (.builtin "object.__class__")))
    (x5E : PySem.W.mroIn K cE (.type "BaseException") = some true)
    (x6E : PySem.W.mroIn K cE (.type "object") = some true)
    (x7E : PySem.W.mroIn K cE (.ref cE) = some true)
    (x1N : PySem.W.excIn K cN veM "ValueError.__new__" = true)
    (x2N : PySem.W.findIn K (.ref cN) "__getattribute__" = some (some (.builtin "BaseException.__getattribute__")))
    (x3N : PySem.W.findIn K (.ref cN) "__getattr__" = some none)
    (x4N : PySem.W.findIn K (.ref cN) "__class__" = some (some (.builtin "object.__class__")))
    (x5N : PySem.W.mroIn K cN (.type "BaseException") = some true)
    (x6N : PySem.W.mroIn K cN (.type "object") = some true)
    (x7N : PySem.W.mroIn K cN (.ref cE) = some true)
    (x1P : PySem.W.excIn K cP veM "ValueError.__new__" = true)
    (x2P : PySem.W.findIn K (.ref cP) "__getattribute__" = some (some (.builtin "BaseException.__getattribute__")))
    (x3P : PySem.W.findIn K (.ref cP) "__getattr__" = some none)
    (x4P : PySem.W.findIn K (.ref cP) "__class__" = some (some (.builtin "object.__class__")))
    (x5P : PySem.W.mroIn K cP (.type "BaseException") = some true)
    (x6P : PySem.W.mroIn K cP (.type "object") = some true)
    (x7P : PySem.W.mroIn K cP (.ref cE) = some true)
    (x1S : PySem.W.excIn K cS veM "ValueError.__new__" = true)
    (x2S : PySem.W.findIn K (.ref cS) "__getattribute__" = some (some (.builtin "BaseException.__getattribute__")))
    (x3S : PySem.W.findIn K (.ref cS) "__getattr__" = some none)
    (x4S : PySem.W.findIn K (.ref cS) "__class__" = some (some (.builtin "object.__class__")))
    (x5S : PySem.W.mroIn K cS (.type "BaseException") = some true)
    (x6S : PySem.W.mroIn K cS (.type "object") = some true)
    (x7S : PySem.W.mroIn K cS (.ref cE) = some true)
    (x1B : PySem.W.excIn K cB veM "ValueError.__new__" = true)
    (x2B : PySem.W.findIn K (.ref cB) "__getattribute__" = some (some (.builtin "BaseException.__getattribute__")))
    (x3B : PySem.W.findIn K (.ref cB) "__getattr__" = some none)
    (x4B : PySem.W.findIn K (.ref cB) "__class__" = some (some (.builtin "object.__class__")))
    (x5B : PySem.W.mroIn K cB (.type "BaseException") = some true)
    (x6B : PySem.W.mroIn K cB (.type "object") = some true)
    (x7B : PySem.W.mroIn K cB (.ref cE) = some true)
    (kNB : PySem.W.kitOne K (.ref cN) (.ref cB) = some false)
    (kNP : PySem.W.kitOne K (.ref cN) (.ref cP) = some false)
    (kNS : PySem.W.kitOne K (.ref cN) (.ref cS) = some false)
    (kNV : PySem.W.kitOne K (.ref cN) (.type "ValueError") = some true)
    (kBN : PySem.W.kitOne K (.ref cB) (.ref cN) = some false)
    (kBP : PySem.W.kitOne K (.ref cB) (.ref cP) = some false)
    (kBS : PySem.W.kitOne K (.ref cB) (.ref cS) = some false)
    (kBV : PySem.W.kitOne K (.ref cB) (.type "ValueError") = some true)
    (zVE : PySem.W.nsIn K mainGlobals "ValueError" = some none)
    {w1 w2 w3 w4 w5 : Tok} (v1 : PySem.W.nsIn K mainGlobals "FIGURES" = some (some (.str Tx.figs w1)))
    (v2 : PySem.W.nsIn K mainGlobals "MOST_FIGURES" = some (some (.int 400 w2)))
    (v3 : PySem.W.nsIn K mainGlobals "LEAST_NUMBERS" = some (some (.int 3 w3)))
    (v4 : PySem.W.nsIn K mainGlobals "MOST_NUMBERS" = some (some (.int 6 w4)))
    (v5 : PySem.W.nsIn K mainGlobals "MOST_TIMES" = some (some (.int 1000 w5))) :
    ∃ fd : FuncData, (∀ (s : Shared) (v : Value), BindsTo s fd ⟨[v], []⟩ [("script", v)]) ∧ ∀ base : Heap, K.In base → base.Ns mainGlobals mg → FnOk l.prog w K mg base CX0 6 fa fd ["script"] (spLaw K) := by
  have e := hfa.symm.trans (PySem.W.mg_of X G a21)
  cases e
  have F1 := fun_mk (st := sProduct) l1 c1 k1
  have b1 := F1.binds (ps := ["numbers"]) fun _ _ _ _ _ _ us hl => match us, hl with | [_], _ => rfl
  have m1 := PySem.W.mg_of X G a1
  have F2 := fun_mk (st := sSquareSum) l2 c2 k2
  have b2 := F2.binds (ps := ["numbers"]) fun _ _ _ _ _ _ us hl => match us, hl with | [_], _ => rfl
  have m2 := PySem.W.mg_of X G a2
  have F3 := fun_mk (st := sHolds) l3 c3 k3
  have b3 := F3.binds (ps := ["times", "row"]) fun _ _ _ _ _ _ us hl => match us, hl with | [_, _], _ => rfl
  have m3 := PySem.W.mg_of X G a3
  have F4 := fun_mk (st := sMustHold) l4 c4 k4
  have b4 := F4.binds (ps := ["times", "row"]) fun _ _ _ _ _ _ us hl => match us, hl with | [_, _], _ => rfl
  have m4 := PySem.W.mg_of X G a4
  have F5 := fun_mk (st := sIsNumber) l5 c5 k5
  have b5 := F5.binds (ps := ["word"]) fun _ _ _ _ _ _ us hl => match us, hl with | [_], _ => rfl
  have m5 := PySem.W.mg_of X G a5
  have F6 := fun_mk (st := sNumberOf) l6 c6 k6
  have b6 := F6.binds (ps := ["word"]) fun _ _ _ _ _ _ us hl => match us, hl with | [_], _ => rfl
  have m6 := PySem.W.mg_of X G a6
  have F7 := fun_mk (st := sRead) l7 c7 k7
  have b7 := F7.binds (ps := ["text"]) fun _ _ _ _ _ _ us hl => match us, hl with | [_], _ => rfl
  have m7 := PySem.W.mg_of X G a7
  have F8 := fun_mk (st := sCellAt) l8 c8 k8
  have b8 := F8.binds (ps := ["script", "k"]) fun _ _ _ _ _ _ us hl => match us, hl with | [_, _], _ => rfl
  have m8 := PySem.W.mg_of X G a8
  have F9 := fun_mk (st := sWhole) l9 c9 k9
  have b9 := F9.binds (ps := ["found"]) fun _ _ _ _ _ _ us hl => match us, hl with | [_], _ => rfl
  have m9 := PySem.W.mg_of X G a9
  have F10 := fun_mk (st := sLProduct) l10 c10 k10
  have b10 := F10.binds (ps := ["numbers"]) fun _ _ _ _ _ _ us hl => match us, hl with | [_], _ => rfl
  have m10 := PySem.W.mg_of X G a10
  have F11 := fun_mk (st := sNear) l11 c11 k11
  have b11 := F11.binds (ps := ["times", "row", "place"]) fun _ _ _ _ _ _ us hl => match us, hl with | [_, _, _], _ => rfl
  have m11 := PySem.W.mg_of X G a11
  have F12 := fun_mk (st := sIsRow) l12 c12 k12
  have b12 := F12.binds (ps := ["times", "row"]) fun _ _ _ _ _ _ us hl => match us, hl with | [_, _], _ => rfl
  have m12 := PySem.W.mg_of X G a12
  have F13 := fun_mk (st := sAlike) l13 c13 k13
  have b13 := F13.binds (ps := ["found", "due"]) fun _ _ _ _ _ _ us hl => match us, hl with | [_, _], _ => rfl
  have m13 := PySem.W.mg_of X G a13
  have F14 := fun_mk (st := sRootBy) l14 c14 k14
  have b14 := F14.binds (ps := ["cell"]) fun _ _ _ _ _ _ us hl => match us, hl with | [_], _ => rfl
  have m14 := PySem.W.mg_of X G a14
  have F15 := fun_mk (st := sDrawn) l15 c15 k15
  have b15 := F15.binds (ps := ["script"]) fun _ _ _ _ _ _ us hl => match us, hl with | [_], _ => rfl
  have m15 := PySem.W.mg_of X G a15
  have F16 := fun_mk (st := sOdd) l16 c16 k16
  have b16 := F16.binds (ps := ["cell"]) fun _ _ _ _ _ _ us hl => match us, hl with | [_], _ => rfl
  have m16 := PySem.W.mg_of X G a16
  have F17 := fun_mk (st := sTurned) l17 c17 k17
  have b17 := F17.binds (ps := ["words", "cell"]) fun _ _ _ _ _ _ us hl => match us, hl with | [_, _], _ => rfl
  have m17 := PySem.W.mg_of X G a17
  have F18 := fun_mk (st := sLNumber) l18 c18 k18
  have b18 := F18.binds (ps := ["word"]) fun _ _ _ _ _ _ us hl => match us, hl with | [_], _ => rfl
  have m18 := PySem.W.mg_of X G a18
  have F19 := fun_mk (st := sDue) l19 c19 k19
  have b19 := F19.binds (ps := ["text"]) fun _ _ _ _ _ _ us hl => match us, hl with | [_], _ => rfl
  have m19 := PySem.W.mg_of X G a19
  have F20 := fun_mk (st := sTried) l20 c20 k20
  have b20 := F20.binds (ps := ["text"]) fun _ _ _ _ _ _ us hl => match us, hl with | [_], _ => rfl
  have m20 := PySem.W.mg_of X G a20
  have F21 := fun_mk (st := sLaw) l21 c21 k21
  have T : Bl mg := ⟨PySem.W.mg_none_of X G z1, PySem.W.mg_none_of X G z2, PySem.W.mg_none_of X G z3, PySem.W.mg_none_of X G z4, PySem.W.mg_none_of X G z5, PySem.W.mg_none_of X G z6, PySem.W.mg_none_of X G z7, PySem.W.mg_none_of X G z8, PySem.W.mg_none_of X G z9, PySem.W.mg_none_of X G z10, PySem.W.mg_none_of X G z11, PySem.W.mg_none_of X G z12, PySem.W.mg_none_of X G z13, PySem.W.mg_none_of X G z14, PySem.W.mg_none_of X G z15⟩
  refine ⟨PySem.W.fnOf "law" "law" (defArgs sLaw) (defBody sLaw) (defScope sLaw) .none kV21 dc21 pm21 an21 cd21 ct21, fun s v => .of_eq rfl, fun base _ _ => ?_⟩
  have XE : Xcl K mg "RowError" cE cE := ⟨PySem.W.mg_of X G aE, ⟨x1E, x2E, x3E, x4E, x5E, x6E⟩, x7E⟩
  have XN : Xcl K mg "NoRow" cN cE := ⟨PySem.W.mg_of X G aN, ⟨x1N, x2N, x3N, x4N, x5N, x6N⟩, x7N⟩
  have XP : Xcl K mg "NoPlace" cP cE := ⟨PySem.W.mg_of X G aP, ⟨x1P, x2P, x3P, x4P, x5P, x6P⟩, x7P⟩
  have XS : Xcl K mg "NoSuch" cS cE := ⟨PySem.W.mg_of X G aS, ⟨x1S, x2S, x3S, x4S, x5S, x6S⟩, x7S⟩
  have XB : Xcl K mg "BadText" cB cE := ⟨PySem.W.mg_of X G aB, ⟨x1B, x2B, x3B, x4B, x5B, x6B⟩, x7B⟩
  have hVE := PySem.W.mg_none_of X G zVE
  have C : Tx.Cn mg := ⟨⟨_, PySem.W.mg_of X G v1⟩, ⟨_, PySem.W.mg_of X G v2⟩, ⟨_, PySem.W.mg_of X G v3⟩, ⟨_, PySem.W.mg_of X G v4⟩, ⟨_, PySem.W.mg_of X G v5⟩⟩
  have D1 := df_mk (ok_product (P := l.prog) (w := w) (mg := mg) (base := base) F1 ) b1 k1 m1
  have D2 := df_mk (ok_square_sum (P := l.prog) (w := w) (mg := mg) (base := base) T F2 ) b2 k2 m2
  have D3 := df_mk (ok_holds (P := l.prog) (w := w) (mg := mg) (base := base) T F3 D2 D1) b3 k3 m3
  have Dmx := dfx_mk (ok_must_holdB (P := l.prog) (w := w) (mg := mg) (base := base) XN F4 D3) b4 k4 m4
  have Din := df_mk (ok_is_number (P := l.prog) (w := w) (mg := mg) (base := base) T C F5) b5 k5 m5
  have Dnx := dfx_mk (ok_number_ofX (P := l.prog) (w := w) (mg := mg) (base := base) T XB F6 Din) b6 k6 m6
  have Drx := dfx_mk (ok_readX (P := l.prog) (w := w) (mg := mg) (base := base) T C XB F7 Dnx Dmx) b7 k7 m7
  have D8 := df_mk (ok_cell_at (P := l.prog) (w := w) (mg := mg) (base := base) T F8 ) b8 k8 m8
  have D9 := df_mk (ok_whole (P := l.prog) (w := w) (mg := mg) (base := base) T F9 ) b9 k9 m9
  have D10 := df_mk (ok_lproduct (P := l.prog) (w := w) (mg := mg) (base := base) F10 ) b10 k10 m10
  have D11 := df_mk (ok_near (P := l.prog) (w := w) (mg := mg) (base := base) T F11 D10) b11 k11 m11
  have D12 := df_mk (ok_is_row (P := l.prog) (w := w) (mg := mg) (base := base) T F12 D10) b12 k12 m12
  have D13 := df_mk (ok_alike (P := l.prog) (w := w) (mg := mg) (base := base) T F13 D9) b13 k13 m13
  have D14 := df_mk (ok_root_by (P := l.prog) (w := w) (mg := mg) (base := base) F14 ) b14 k14 m14
  have D15 := df_mk (ok_drawn (P := l.prog) (w := w) (mg := mg) (base := base) T F15 D8 D14 D11) b15 k15 m15
  have D16 := df_mk (ok_odd (P := l.prog) (w := w) (mg := mg) (base := base) F16 ) b16 k16 m16
  have D17 := df_mk (ok_turned14 (P := l.prog) (w := w) (mg := mg) (base := base) T F17 D16) b17 k17 m17
  have D18 := df_mk (ok_number14 (P := l.prog) (w := w) (mg := mg) (base := base) T F18 ) b18 k18 m18
  have D19 := df_mk (ok_due14 (P := l.prog) (w := w) (mg := mg) (base := base) T F19 D18) b19 k19 m19
  have Dtr := df_mk (ok_tried14 (P := l.prog) (w := w) (mg := mg) (base := base) T hVE XE XN XP XS XB kNB kNP kNS kNV kBN kBP kBS kBV F20 Drx) b20 k20 m20
  exact ok_law T F21 D8 D15 D17 D19 Dtr D12 D9 D13
set_option maxHeartbeats 0 in
theorem walk {l : PySem.W.OpenLaw} {q : Program} {loose : List Str} {XP : (Str → Option Value) → Heap → Prop} {YP : World → Heap → Prop} {d : DefRec} {K : Params → PySem.W.Frag} (hn : l.most = some 63) (hdf : d.params.defaults = [])
    (hY : ∀ (w : World) (h : Heap), YP w h → (K w.params).In h)
    (F : ∀ (w : World) (mg : Str → Option Value) (fa : Addr) (h : Heap), (K w.params).In h → h.Ns mainGlobals mg → mg d.name = some (.ref fa) →
      ∃ fd : FuncData, (∀ (s : Shared) (u : Value), BindsTo s fd ⟨[u], []⟩ [("script", u)]) ∧ ∀ base : Heap, (K w.params).In base → base.Ns mainGlobals mg → FnOk l.prog w (K w.params) mg base CX0 6 fa fd ["script"] (spLaw (K w.params))) :
    PySem.W.WalkO q loose XP YP l.row.toRowW d [] (fun f vs => PySem.call f vs) :=
  L2.walk_of (n := 63) (k := 6) (x := "script") (CX := fun _ => CX0) (sp := fun w => spLaw (K w.params)) hn (by decide) hdf ⟨rfl, by decide, by decide⟩ hY F (fun _ _ a ns hl _ hS => ⟨a, ns, rfl, hS, hl, fun _ => rfl⟩) fun _ _ _ _ _ z => z
end Z
open PySem PySem.W PyProof.Rows
set_option maxRecDepth 100000 in
set_option maxHeartbeats 0 in
theorem PySem.Challenge.cw_sumtimes_k14_read_holds : PySem.Challenge.rw_sumtimes_k14_read.Holds := by
  w_on; o_law; k_head; (case hw => w_witness2)
  k_fill
  refine Z.walk (l := PySem.Challenge.rw_sumtimes_k14_read) rfl rfl (fun w h Y => PySem.W.kIn_of Y) ?F
  case F =>
    intro w mg fa h KX G hmg
    refine' Z.all_mk KX G hmg ?a1 ?l1 ?c1 ?k1 ?a2 ?l2 ?c2 ?k2 ?a3 ?l3 ?c3 ?k3 ?a4 ?l4 ?c4 ?k4 ?a5 ?l5 ?c5 ?k5 ?a6 ?l6 ?c6 ?k6 ?a7 ?l7 ?c7 ?k7 ?a8 ?l8 ?c8 ?k8 ?a9 ?l9 ?c9 ?k9 ?a10 ?l10 ?c10 ?k10 ?a11 ?l11 ?c11 ?k11 ?a12 ?l12 ?c12 ?k12 ?a13 ?l13 ?c13 ?k13 ?a14 ?l14 ?c14 ?k14 ?a15 ?l15 ?c15 ?k15 ?a16 ?l16 ?c16 ?k16 ?a17 ?l17 ?c17 ?k17 ?a18 ?l18 ?c18 ?k18 ?a19 ?l19 ?c19 ?k19 ?a20 ?l20 ?c20 ?k20 ?a21 ?l21 ?c21 ?k21 ?z1 ?z2 ?z3 ?z4 ?z5 ?z6 ?z7 ?z8 ?z9 ?z10 ?z11 ?z12 ?z13 ?z14 ?z15 ?aE ?aN ?aP ?aS ?aB ?x1E ?x2E ?x3E ?x4E ?x5E ?x6E ?x7E ?x1N ?x2N ?x3N ?x4N ?x5N ?x6N ?x7N ?x1P ?x2P ?x3P ?x4P ?x5P ?x6P ?x7P ?x1S ?x2S ?x3S ?x4S ?x5S ?x6S ?x7S ?x1B ?x2B ?x3B ?x4B ?x5B ?x6B ?x7B ?kNB ?kNP ?kNS ?kNV ?kBN ?kBP ?kBS ?kBV ?zVE ?v1 ?v2 ?v3 ?v4 ?v5
    (case a1 => k_is); (case l1 => k_is); (case c1 => k_is); (case k1 => k_is)
    (case a2 => k_is); (case l2 => k_is); (case c2 => k_is); (case k2 => k_is)
    (case a3 => k_is); (case l3 => k_is); (case c3 => k_is); (case k3 => k_is)
    (case a4 => k_is); (case l4 => k_is); (case c4 => k_is); (case k4 => k_is)
    (case a5 => k_is); (case l5 => k_is); (case c5 => k_is); (case k5 => k_is)
    (case a6 => k_is); (case l6 => k_is); (case c6 => k_is); (case k6 => k_is)
    (case a7 => k_is); (case l7 => k_is); (case c7 => k_is); (case k7 => k_is)
    (case a8 => k_is); (case l8 => k_is); (case c8 => k_is); (case k8 => k_is)
    (case a9 => k_is); (case l9 => k_is); (case c9 => k_is); (case k9 => k_is)
    (case a10 => k_is); (case l10 => k_is); (case c10 => k_is); (case k10 => k_is)
    (case a11 => k_is); (case l11 => k_is); (case c11 => k_is); (case k11 => k_is)
    (case a12 => k_is); (case l12 => k_is); (case c12 => k_is); (case k12 => k_is)
    (case a13 => k_is); (case l13 => k_is); (case c13 => k_is); (case k13 => k_is)
    (case a14 => k_is); (case l14 => k_is); (case c14 => k_is); (case k14 => k_is)
    (case a15 => k_is); (case l15 => k_is); (case c15 => k_is); (case k15 => k_is)
    (case a16 => k_is); (case l16 => k_is); (case c16 => k_is); (case k16 => k_is)
    (case a17 => k_is); (case l17 => k_is); (case c17 => k_is); (case k17 => k_is)
    (case a18 => k_is); (case l18 => k_is); (case c18 => k_is); (case k18 => k_is)
    (case a19 => k_is); (case l19 => k_is); (case c19 => k_is); (case k19 => k_is)
    (case a20 => k_is); (case l20 => k_is); (case c20 => k_is); (case k20 => k_is)
    (case a21 => k_is); (case l21 => k_is); (case c21 => k_is); (case k21 => k_is)
    (case z1 => k_is)
    (case z2 => k_is)
    (case z3 => k_is)
    (case z4 => k_is)
    (case z5 => k_is)
    (case z6 => k_is)
    (case z7 => k_is)
    (case z8 => k_is)
    (case z9 => k_is)
    (case z10 => k_is)
    (case z11 => k_is)
    (case z12 => k_is)
    (case z13 => k_is)
    (case z14 => k_is)
    (case z15 => k_is)
    (case aE => k_is)
    (case aN => k_is)
    (case aP => k_is)
    (case aS => k_is)
    (case aB => k_is)
    (case x1E => kernel_rfl)
    (case x2E => k_is)
    (case x3E => k_is)
    (case x4E => k_is)
    (case x5E => k_is)
    (case x6E => k_is)
    (case x7E => k_is)
    (case x1N => kernel_rfl)
    (case x2N => k_is)
    (case x3N => k_is)
    (case x4N => k_is)
    (case x5N => k_is)
    (case x6N => k_is)
    (case x7N => k_is)
    (case x1P => kernel_rfl)
    (case x2P => k_is)
    (case x3P => k_is)
    (case x4P => k_is)
    (case x5P => k_is)
    (case x6P => k_is)
    (case x7P => k_is)
    (case x1S => kernel_rfl)
    (case x2S => k_is)
    (case x3S => k_is)
    (case x4S => k_is)
    (case x5S => k_is)
    (case x6S => k_is)
    (case x7S => k_is)
    (case x1B => kernel_rfl)
    (case x2B => k_is)
    (case x3B => k_is)
    (case x4B => k_is)
    (case x5B => k_is)
    (case x6B => k_is)
    (case x7B => k_is)
    (case kNB => first | kit_is | kernel_rfl)
    (case kNP => first | kit_is | kernel_rfl)
    (case kNS => first | kit_is | kernel_rfl)
    (case kNV => first | kit_is | kernel_rfl)
    (case kBN => first | kit_is | kernel_rfl)
    (case kBP => first | kit_is | kernel_rfl)
    (case kBS => first | kit_is | kernel_rfl)
    (case kBV => first | kit_is | kernel_rfl)
    (case zVE => k_is)
    (case v1 => k_is)
    (case v2 => k_is)
    (case v3 => k_is)
    (case v4 => k_is)
    (case v5 => k_is)
#print axioms PySem.Challenge.cw_sumtimes_k14_read_holds
end
